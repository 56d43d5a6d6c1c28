"""Point [5] and the interface of tallyweb/webs.py."""

import copy
import itertools
import unittest

from small import SIXTY, all_pairs, all_webs
from tallyweb.errors import BadWeb, NoPlace
from tallyweb.webs import made, other_web, tally_of, tied

NO_PLACES_OF_FOUR = (-1, -4, -5, 4, 5, 24, 1000, SIXTY, -SIXTY)


class Made(unittest.TestCase):
    def assert_told_as_a_web(self, web):
        self.assertIs(type(web), tuple)
        self.assertEqual(len(web), 2)
        self.assertIs(type(web[0]), int)
        self.assertIs(type(web[1]), tuple)
        for tie in web[1]:
            self.assertIs(type(tie), tuple)
            self.assertEqual([type(end) for end in tie], [int, int])

    def assert_refused(self, places, ties):
        for handed in (list(ties), tuple(ties)):
            with self.subTest(places=places, ties=handed):
                with self.assertRaises(BadWeb):
                    made(places, handed)

    def test_lists_and_tuples_of_ties(self):
        for ties in ([(2, 1), (0, 3), (1, 0)], ((2, 1), (0, 3), (1, 0))):
            web = made(4, ties)
            self.assertEqual(web, (4, ((0, 1), (0, 3), (1, 2))))
            self.assert_told_as_a_web(web)

    def test_any_order_and_either_end_first(self):
        told = (4, ((0, 2), (1, 2), (1, 3)))
        for ties in itertools.permutations(told[1]):
            for turns in itertools.product((1, -1), repeat=3):
                handed = [tie[::turn] for tie, turn in zip(ties, turns)]
                self.assertEqual(made(4, handed), told)
                self.assertEqual(made(4, tuple(handed)), told)

    def test_places_ascend_as_numbers(self):
        self.assertEqual(made(24, [(10, 2), (2, 9), (23, 0), (1, 0)])[1], ((0, 1), (0, 23), (2, 9), (2, 10)))

    def test_every_small_web(self):
        for places in range(1, 5):
            for web in all_webs(places):
                self.assertEqual(made(places, [tie[::-1] for tie in reversed(web[1])]), web)

    def test_one_place(self):
        for ties in ([], ()):
            self.assertEqual(made(1, ties), (1, ()))
            self.assert_told_as_a_web(made(1, ties))

    def test_no_ties_and_all_ties_for_each_number_of_places(self):
        for places in range(1, 25):
            pairs = all_pairs(places)
            self.assertEqual(made(places, []), (places, ()))
            self.assertEqual(made(places, pairs[::-1]), (places, tuple(pairs)))
            self.assert_told_as_a_web(made(places, pairs))

    def test_refuses_other_numbers_of_places(self):
        for places in (0, 25, 26, 100, -1, -24, SIXTY, -SIXTY):
            self.assert_refused(places, [])
            self.assert_refused(places, [(0, 1)])

    def test_refuses_a_tie_of_a_place_with_itself(self):
        self.assert_refused(1, [(0, 0)])
        for place in range(4):
            self.assert_refused(4, [(place, place)])
            self.assert_refused(4, [(0, 1), (2, 3), (place, place)])
        self.assert_refused(24, [(23, 23)])

    def test_refuses_an_end_that_is_no_place(self):
        for number in NO_PLACES_OF_FOUR:
            self.assert_refused(4, [(0, number)])
            self.assert_refused(4, [(number, 3)])
            self.assert_refused(4, [(number, number)])
            self.assert_refused(4, [(0, 1), (1, 2), (number, 3)])
        self.assert_refused(1, [(0, 1)])
        self.assert_refused(24, [(24, 23)])
        self.assert_refused(24, [(-1, 0)])

    def test_refuses_two_ties_of_the_same_two(self):
        self.assert_refused(4, [(0, 1), (0, 1)])
        self.assert_refused(4, [(1, 0), (1, 0)])
        self.assert_refused(4, [(0, 1), (1, 0)])
        self.assert_refused(4, [(3, 1), (0, 1), (0, 2), (1, 3)])
        self.assert_refused(2, [(0, 1)] * 5)
        self.assert_refused(24, all_pairs(24) + [(23, 22)])

    def test_what_is_handed_in_stays(self):
        ties = [(2, 1), (0, 3), (1, 0)]
        made(4, ties)
        self.assertEqual(ties, [(2, 1), (0, 3), (1, 0)])
        refused = [(2, 1), (1, 2), (0, 9)]
        with self.assertRaises(BadWeb):
            made(4, refused)
        self.assertEqual(refused, [(2, 1), (1, 2), (0, 9)])

    def test_the_web_stays_when_the_list_is_changed_later(self):
        ties = [(2, 1), (0, 3)]
        web = made(4, ties)
        ties.append((1, 0))
        ties[0] = (3, 2)
        self.assertEqual(web, (4, ((0, 3), (1, 2))))
        ties.clear()
        self.assertEqual(web, (4, ((0, 3), (1, 2))))

    def test_the_same_answer_each_time(self):
        self.assertEqual(made(3, [(2, 0)]), (3, ((0, 2),)))
        made(5, [(4, 0), (1, 2)])
        self.assertEqual(made(3, [(2, 0)]), (3, ((0, 2),)))


class TallyOf(unittest.TestCase):
    def test_how_many_ties_each_place_has(self):
        self.assertEqual(tally_of(made(5, [(3, 0), (0, 1), (1, 3), (2, 0)])), [3, 2, 1, 2, 0])

    def test_one_place_no_ties_and_all_ties(self):
        for places in range(1, 25):
            self.assertEqual(tally_of(made(places, [])), [0] * places)
            self.assertEqual(tally_of(made(places, all_pairs(places))), [places - 1] * places)

    def test_every_small_web(self):
        for places in range(1, 5):
            for web in all_webs(places):
                expected = [sum(place in tie for tie in web[1]) for place in range(places)]
                self.assertEqual(tally_of(web), expected)
                self.assertIs(type(tally_of(web)), list)

    def test_a_list_of_its_own_at_each_call(self):
        web = made(3, [(0, 1), (1, 2)])
        first = tally_of(web)
        second = tally_of(web)
        self.assertIsNot(first, second)
        first[0] = 99
        first.append(7)
        self.assertEqual(second, [1, 2, 1])
        self.assertEqual(tally_of(web), [1, 2, 1])
        self.assertEqual(web, (3, ((0, 1), (1, 2))))


class Tied(unittest.TestCase):
    def test_either_way_round_and_never_with_itself(self):
        for web in all_webs(4):
            for one, other in itertools.product(range(4), repeat=2):
                expected = (min(one, other), max(one, other)) in web[1]
                self.assertIs(tied(web, one, other), expected)
                self.assertIs(tied(web, one, one), False)

    def test_the_greatest_web(self):
        web = made(24, all_pairs(24))
        self.assertIs(tied(web, 0, 23), True)
        self.assertIs(tied(web, 23, 0), True)
        self.assertIs(tied(web, 23, 23), False)
        self.assertIs(tied(made(24, []), 23, 0), False)

    def test_refuses_what_is_no_place(self):
        for web in (made(4, []), made(4, all_pairs(4))):
            for number in NO_PLACES_OF_FOUR:
                for one, other in ((number, 0), (0, number), (number, 3), (3, number), (number, number)):
                    with self.subTest(web=web, one=one, other=other):
                        with self.assertRaises(NoPlace):
                            tied(web, one, other)

    def test_refuses_what_is_no_place_of_one(self):
        web = made(1, [])
        self.assertIs(tied(web, 0, 0), False)
        for one, other in ((0, 1), (1, 0), (1, 1), (-1, 0), (0, -1), (-1, -1)):
            with self.subTest(one=one, other=other):
                with self.assertRaises(NoPlace):
                    tied(web, one, other)


class OtherWeb(unittest.TestCase):
    def test_a_tie_just_where_the_web_has_none(self):
        self.assertEqual(other_web(made(4, [(0, 1), (2, 3)])), (4, ((0, 2), (0, 3), (1, 2), (1, 3))))

    def test_every_small_web(self):
        for places in range(1, 5):
            for web in all_webs(places):
                other = other_web(web)
                expected = tuple(pair for pair in all_pairs(places) if pair not in web[1])
                self.assertEqual(other, (places, expected))
                self.assertEqual(made(*other), other)
                self.assertEqual(other_web(other), web)

    def test_no_ties_and_all_ties(self):
        for places in range(1, 25):
            none, every = made(places, []), made(places, all_pairs(places))
            self.assertEqual(other_web(none), every)
            self.assertEqual(other_web(every), none)

    def test_a_great_web_and_back(self):
        web = made(24, [pair for pair in all_pairs(24) if sum(pair) % 3 == 0])
        other = other_web(web)
        self.assertEqual(len(other[1]) + len(web[1]), 276)
        self.assertEqual(other_web(other), web)
        self.assertEqual([sum(both) for both in zip(tally_of(web), tally_of(other))], [23] * 24)

    def test_the_web_stays_and_the_answer_too(self):
        web = made(4, [(0, 1), (2, 3)])
        before = copy.deepcopy(web)
        self.assertEqual(other_web(web), other_web(web))
        self.assertEqual(web, before)


if __name__ == "__main__":
    unittest.main()
