"""Point [9] and the interface of tallyweb/laying.py."""

import itertools
import unittest

from small import NOT_TALLIES, SIXTY, all_pairs, all_webs, counted, great_webs, is_web, round_web, webs_by_tally
from tallyweb.errors import BadTally, NoPlace, NoWeb
from tallyweb.laying import answer_shows, answered, left_by
from tallyweb.walls import wall_of


def left_by_the_words(tally, place):
    others = [one for one in range(len(tally)) if one != place]
    greatest = sorted(others, key=lambda one: (-tally[one], one))[:tally[place]]
    return [tally[one] - (one in greatest) for one in others]


class LeftBy(unittest.TestCase):
    def test_told_by_hand(self):
        self.assertEqual(left_by([2, 1, 3, 2], 0), [1, 2, 1])
        self.assertEqual(left_by([2, 1, 3, 2], 1), [2, 2, 2])
        self.assertEqual(left_by([2, 1, 3, 2], 2), [1, 0, 1])
        self.assertEqual(left_by((2, 1, 3, 2), 3), [1, 1, 2])

    def test_of_equal_ones_the_lesser_places(self):
        self.assertEqual(left_by([2, 2, 2, 2, 2], 0), [1, 1, 2, 2])
        self.assertEqual(left_by([2, 2, 2, 2, 2], 4), [1, 1, 2, 2])
        self.assertEqual(left_by([1, 3, 1, 3, 3], 1), [0, 1, 2, 2])
        self.assertEqual(left_by([1] * 24, 23), [0] + [1] * 22)

    def test_every_place_of_every_small_tally(self):
        for places in range(1, 5):
            for tally in itertools.product(range(-2, 4), repeat=places):
                for place in range(places):
                    if 0 <= tally[place] < places:
                        told = left_by(tally, place)
                        self.assertEqual(told, left_by_the_words(tally, place))
                        self.assertEqual(left_by(list(tally), place), told)
                        self.assertIs(type(told), list)

    def test_great_tallies(self):
        for tally in ([23] * 24, list(range(24)), [23 - n for n in range(24)], [n % 7 for n in range(24)]):
            for place in range(24):
                self.assertEqual(left_by(tally, place), left_by_the_words(tally, place))
        self.assertEqual(left_by([23] + [0] * 23, 0), [-1] * 23)

    def test_other_places_below_nought(self):
        self.assertEqual(left_by([2, -1, -5, 0], 0), [-2, -5, -1])
        self.assertEqual(left_by([3, -1, -5, 0], 0), [-2, -6, -1])
        self.assertEqual(left_by([0, -1], 0), [-1])
        self.assertEqual(left_by([1, -SIXTY, -SIXTY], 0), [-SIXTY - 1, -SIXTY])

    def test_numbers_of_sixty_figures(self):
        self.assertEqual(left_by([SIXTY, 2, SIXTY - 1, SIXTY], 1), [SIXTY - 1, SIXTY - 1, SIXTY - 1])

    def test_one_place_leaves_the_empty_list(self):
        self.assertEqual(left_by([0], 0), [])
        self.assertEqual(left_by((0,), 0), [])
        self.assertIs(type(left_by((0,), 0)), list)

    def test_a_web_just_where_what_is_left_has_one(self):
        held = {places: webs_by_tally(places) for places in range(1, 6)}
        held[0] = {(): True}
        for places in range(1, 6):
            for tally in itertools.product(range(places), repeat=places):
                for place in range(places):
                    left = tuple(left_by(tally, place))
                    self.assertEqual(left in held[places - 1], tally in held[places], (tally, place))

    def test_refuses_what_is_no_place(self):
        for tally in ([0, 1, 2], (-1, SIXTY, -SIXTY)):
            for place in (-1, -2, -3, -4, 3, 4, 24, SIXTY, -SIXTY):
                with self.subTest(tally=tally, place=place):
                    with self.assertRaises(NoPlace):
                        left_by(tally, place)
        for tally, place in (([0], 1), ([0], -1), ([0] * 24, 24), ([0] * 24, -1), ([-1], 1), ([9], -1)):
            with self.subTest(tally=tally, place=place):
                with self.assertRaises(NoPlace):
                    left_by(tally, place)

    def test_refuses_a_number_that_no_web_has_there(self):
        for number in (-1, -2, -SIXTY, 3, 4, 24, SIXTY):
            for place in range(3):
                tally = [1, 1]
                tally.insert(place, number)
                with self.subTest(tally=tally, place=place):
                    with self.assertRaises(NoWeb):
                        left_by(tally, place)
                    with self.assertRaises(NoWeb):
                        left_by(tuple(tally), place)
        for tally in ([1], [-1], [24] * 24, [-1] * 24):
            with self.subTest(tally=tally):
                with self.assertRaises(NoWeb):
                    left_by(tally, 0)

    def test_refuses_what_is_no_tally_ahead_of_all_else(self):
        for tally in NOT_TALLIES:
            for place in (0, 1, -1, 24, 25, len(tally), SIXTY):
                with self.subTest(tally=tally, place=place):
                    with self.assertRaises(BadTally):
                        left_by(tally, place)
        with self.assertRaises(BadTally):
            left_by([-1] * 25, 0)

    def test_what_is_handed_in_stays_and_each_list_is_its_own(self):
        tally = [2, 1, 3, 2]
        first, second = left_by(tally, 0), left_by(tally, 0)
        self.assertIsNot(first, second)
        first[0] = 99
        first.append(7)
        self.assertEqual(second, [1, 2, 1])
        self.assertEqual(tally, [2, 1, 3, 2])
        tally[1] = 9
        self.assertEqual(second, [1, 2, 1])
        self.assertIsNot(left_by([0], 0), left_by([0], 0))


class Answered(unittest.TestCase):
    def assert_answered_by_a_web(self, tally):
        told = answered(tally)
        self.assertIs(type(told), tuple)
        self.assertEqual((len(told), told[0]), (2, "web"))
        self.assertTrue(is_web(told[1]), told)
        self.assertEqual(counted(told[1]), tuple(tally))
        self.assertIs(answer_shows(tally, told), True)

    def test_every_small_tally(self):
        for places in range(1, 5):
            held = webs_by_tally(places)
            for tally in itertools.product(range(-1, 5), repeat=places):
                if tally in held:
                    self.assertIn(answered(tally)[1], held[tally])
                    self.assert_answered_by_a_web(tally)
                    self.assert_answered_by_a_web(list(tally))
                else:
                    self.assertEqual(answered(tally), ("wall", wall_of(tally)))
                    self.assertEqual(answered(list(tally)), ("wall", wall_of(tally)))

    def test_every_web_of_five_places(self):
        for tally in webs_by_tally(5):
            self.assert_answered_by_a_web(tally)

    def test_great_tallies(self):
        for web in great_webs():
            self.assert_answered_by_a_web(counted(web))
            self.assert_answered_by_a_web(list(counted(web))[::-1])

    def test_many_and_few_ties_of_24_places(self):
        for many in range(24):
            self.assert_answered_by_a_web([many] * 24)
        self.assert_answered_by_a_web([23] + [1] * 23)
        self.assert_answered_by_a_web([1] * 23 + [23])
        self.assert_answered_by_a_web([0] * 22 + [1, 1])
        self.assert_answered_by_a_web([max(place, 23 - place) - (place < 12) for place in range(24)])

    def test_the_only_web(self):
        self.assertEqual(answered([0]), ("web", (1, ())))
        self.assertEqual(answered((1, 1)), ("web", (2, ((0, 1),))))
        self.assertEqual(answered([1, 2, 1]), ("web", (3, ((0, 1), (1, 2)))))
        self.assertEqual(answered([0] * 24), ("web", (24, ())))
        self.assertEqual(answered([23] * 24), ("web", (24, tuple(all_pairs(24)))))

    def test_walls(self):
        self.assertEqual(answered([9, -1, -3]), ("wall", ("below", 1)))
        self.assertEqual(answered([9, 0, 0]), ("wall", ("odd",)))
        self.assertEqual(answered([1, 3, 1, 3]), ("wall", ("wall", 2)))
        self.assertEqual(answered([SIXTY, SIXTY]), ("wall", ("wall", 1)))
        self.assertEqual(answered([SIXTY, -SIXTY]), ("wall", ("below", 1)))
        self.assertEqual(answered([21, 21] + [23] * 22), ("wall", ("wall", 22)))
        self.assertEqual(answered([24] * 24), ("wall", ("wall", 1)))

    def test_refuses_what_is_no_tally(self):
        for tally in NOT_TALLIES:
            with self.subTest(tally=tally):
                with self.assertRaises(BadTally):
                    answered(tally)

    def test_the_same_asked_twice_and_what_is_handed_in_stays(self):
        for tally in ([3, 3, 2, 2, 2, 2], [1, 3, 1, 3], [n % 4 for n in range(24)]):
            before = list(tally)
            first = answered(tally)
            answered([2, 2, 2])
            self.assertEqual(answered(tally), first)
            self.assertEqual(answered(tuple(tally)), first)
            self.assertEqual(tally, before)
            tally[0] += 5
            self.assertEqual(answered(before), first)


class AnswerShows(unittest.TestCase):
    def test_any_right_web_and_no_other(self):
        for places in range(1, 5):
            webs = list(all_webs(places))
            for tally in webs_by_tally(places):
                for web in webs:
                    shown = counted(web) == tally
                    self.assertIs(answer_shows(tally, ("web", web)), shown)
                    self.assertIs(answer_shows(list(tally), ("web", web)), shown)

    def test_great_webs(self):
        for web in great_webs():
            self.assertIs(answer_shows(counted(web), ("web", web)), True)
        for far in ((1, 2), (3, 5), (7, 11), (4, 9)):
            self.assertIs(answer_shows([4] * 24, ("web", round_web(24, *far))), True)

    def test_a_tie_turned_about(self):
        self.assert_no_web(3, (1, 0), (1, 2))
        self.assert_no_web(3, (0, 1), (2, 1))

    def assert_no_web(self, places, *ties):
        """None of the tally that they would have, none of the tally [1, 2, 1]."""
        for tally in ([1, 2, 1], (1, 2, 1)):
            with self.subTest(places=places, ties=ties):
                self.assertIs(answer_shows(tally, ("web", (places, ties))), False)

    def test_two_in_the_wrong_order(self):
        self.assert_no_web(3, (1, 2), (0, 1))

    def test_one_told_twice(self):
        self.assert_no_web(3, (0, 1), (1, 2), (1, 2))
        self.assert_no_web(3, (0, 1), (0, 1), (1, 2))
        self.assertIs(answer_shows([2, 2], ("web", (2, ((0, 1), (0, 1))))), False)
        self.assertIs(answer_shows([2, 2], ("web", (2, ((0, 1), (1, 0))))), False)

    def test_one_left_out_and_one_more(self):
        self.assert_no_web(3, (0, 1))
        self.assert_no_web(3)
        self.assert_no_web(3, (0, 1), (0, 2), (1, 2))

    def test_a_tie_of_a_place_with_itself(self):
        self.assert_no_web(3, (0, 1), (1, 1), (1, 2))
        self.assertIs(answer_shows([2], ("web", (1, ((0, 0),)))), False)
        self.assertIs(answer_shows([0, 2], ("web", (2, ((1, 1),)))), False)

    def test_an_end_that_is_no_place(self):
        for number in (-1, -2, -3, 3, 4, 24, SIXTY, -SIXTY):
            self.assert_no_web(3, (0, 1), (1, number))
            self.assert_no_web(3, (number, 1), (1, 2))
            self.assert_no_web(3, (0, number), (1, 2))
            self.assert_no_web(3, (0, 1), (1, 2), (number, number))
        # Counted from the end these would come to the tally.
        self.assert_no_web(3, (-3, 1), (1, 2))
        self.assert_no_web(3, (-2, 2), (0, 1))

    def test_a_place_more_or_fewer(self):
        self.assert_no_web(4, (0, 1), (1, 2))
        self.assert_no_web(2, (0, 1), (1, 2))
        self.assertIs(answer_shows([1, 1, 0], ("web", (2, ((0, 1),)))), False)
        self.assertIs(answer_shows([1, 1], ("web", (3, ((0, 1),)))), False)
        self.assertIs(answer_shows([0], ("web", (2, ()))), False)
        self.assertIs(answer_shows([0, 0], ("web", (1, ()))), False)
        self.assertIs(answer_shows([0] * 24, ("web", (25, ()))), False)

    def test_a_count_of_places_that_is_none(self):
        for places in (0, -1, -3, 25, SIXTY, -SIXTY):
            self.assert_no_web(places, (0, 1), (1, 2))
            self.assert_no_web(places)
            self.assertIs(answer_shows([0], ("web", (places, ()))), False)

    def test_no_web_of_a_tally_that_has_none(self):
        for tally in itertools.product(range(-1, 4), repeat=3):
            if wall_of(tally) is not None:
                for web in all_webs(3):
                    self.assertIs(answer_shows(tally, ("web", web)), False)
        self.assertIs(answer_shows([SIXTY, -SIXTY], ("web", (2, ()))), False)
        self.assertIs(answer_shows([SIXTY, -SIXTY], ("web", (2, ((0, 1),)))), False)

    def test_any_right_wall_and_no_other(self):
        tally = [9, 9, 9, -1, -1]
        for wall in (("odd",), ("below", 3), ("below", 4), ("wall", 1), ("wall", 2), ("wall", 5)):
            with self.subTest(wall=wall):
                self.assertIs(answer_shows(tally, ("wall", wall)), True)
        for number in (-1, -2, 0, 6, SIXTY, -SIXTY):
            for word in ("below", "wall"):
                with self.subTest(word=word, number=number):
                    self.assertIs(answer_shows(tally, ("wall", (word, number))), False)
        self.assertIs(answer_shows(tally, ("wall", ("below", 5))), False)
        self.assertIs(answer_shows([3, 3, 1, 1], ("wall", ("odd",))), False)
        told = [answer_shows((3, 3, 1, 1), ("wall", ("wall", r))) for r in range(-1, 6)]
        self.assertEqual(told, [False, False, False, True, False, False, False])

    def test_no_wall_where_there_is_a_web(self):
        walls = [("odd",)] + [(word, number) for word in ("below", "wall") for number in range(-1, 6)]
        for tally in webs_by_tally(4):
            self.assertEqual([wall for wall in walls if answer_shows(tally, ("wall", wall))], [])

    def test_refuses_what_is_no_tally_ahead_of_all_else(self):
        for tally in NOT_TALLIES:
            for told in (("web", (1, ())), ("web", (25, ())), ("wall", ("odd",)), ("wall", ("wall", SIXTY))):
                with self.subTest(tally=tally, told=told):
                    with self.assertRaises(BadTally):
                        answer_shows(tally, told)

    def test_what_is_handed_in_stays(self):
        tally = [1, 2, 1]
        for told in (("web", (3, ((0, 1), (1, 2)))), ("wall", ("wall", 1))):
            self.assertIs(answer_shows(tally, told), answer_shows(tally, told))
        self.assertEqual(tally, [1, 2, 1])


if __name__ == "__main__":
    unittest.main()
