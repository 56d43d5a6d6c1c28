"""Point [12] and the interface of tallyweb/pairs.py."""

import itertools
import unittest

from small import (
    NOT_TALLIES, SIXTY, WITHOUT_WEB, all_pairs, all_webs, counted, great_webs, is_web, round_web, webs_by_tally,
)
from tallyweb.errors import BadTally, NoPlace, NoWeb
from tallyweb.pairs import always, never, pair_shows, pair_told
from tallyweb.walls import wall_of, wall_shows

WALLS = [("odd",)] + [(word, number) for word in ("below", "wall") for number in range(-2, 7)]
WALLS += [(word, number) for word in ("below", "wall") for number in (SIXTY, -SIXTY)]


def changed(tally, one, other, more):
    told = list(tally)
    told[one] += more
    told[other] += more
    return told


def has(web, one, other):
    return (min(one, other), max(one, other)) in web[1]


def both_ways(places):
    return itertools.permutations(range(places), 2)


class PairTold(unittest.TestCase):
    def assert_told(self, tally, one, other):
        told = pair_told(tally, one, other)
        self.assertIs(type(told), tuple)
        if told[0] == "some":
            self.assertEqual(len(told), 3)
            for web in told[1:]:
                self.assertTrue(is_web(web), told)
                self.assertEqual(counted(web), tuple(tally))
            self.assertTrue(has(told[1], one, other))
            self.assertFalse(has(told[2], one, other))
        else:
            self.assertIn(told[0], ("all", "none"))
            more = 1 if told[0] == "all" else -1
            wall = wall_of(changed(tally, one, other, more))
            self.assertIsNotNone(wall)
            self.assertEqual(told, (told[0], wall))
        self.assertIs(pair_shows(tally, one, other, told), True)
        return told[0]

    def test_by_hand(self):
        self.assertEqual(pair_told([1, 1], 0, 1), ("all", ("wall", 1)))
        self.assertEqual(pair_told([1, 1], 1, 0), ("all", ("wall", 1)))
        self.assertEqual(pair_told((0, 0), 0, 1), ("none", ("below", 0)))
        self.assertEqual(pair_told([0, 0, 0], 2, 1), ("none", ("below", 1)))
        self.assertEqual(pair_told([1, 2, 1], 0, 1), ("all", ("wall", 1)))
        self.assertEqual(pair_told([1, 2, 1], 0, 2), ("none", ("wall", 1)))
        told = pair_told([1, 1, 1, 1], 0, 3)
        self.assertEqual(told[:2], ("some", (4, ((0, 3), (1, 2)))))
        self.assertIn(told[2], ((4, ((0, 1), (2, 3))), (4, ((0, 2), (1, 3)))))

    def test_held_against_all_webs_of_small_tallies(self):
        for places in range(2, 6):
            for tally, webs in webs_by_tally(places).items():
                for one, other in both_ways(places):
                    ties = [has(web, one, other) for web in webs]
                    expected = "all" if all(ties) else "some" if any(ties) else "none"
                    self.assertEqual(self.assert_told(tally, one, other), expected, (tally, one, other))
                    if places < 5:
                        self.assertEqual(self.assert_told(list(tally), one, other), expected)

    def test_great_tallies(self):
        for web in list(great_webs())[::5]:
            tally = counted(web)
            for one, other in list(both_ways(web[0]))[::29]:
                word = self.assert_told(tally, one, other)
                self.assertNotEqual(word, "none" if has(web, one, other) else "all")

    def test_24_places(self):
        self.assertEqual(self.assert_told([23] * 24, 0, 23), "all")
        self.assertEqual(self.assert_told([0] * 24, 0, 23), "none")
        self.assertEqual(self.assert_told([1] * 24, 0, 23), "some")
        self.assertEqual(self.assert_told([22] * 24, 23, 0), "some")
        self.assertEqual(self.assert_told([23] + [1] * 23, 0, 23), "all")
        self.assertEqual(self.assert_told([23] + [1] * 23, 1, 23), "none")

    def test_the_same_asked_twice_and_what_is_handed_in_stays(self):
        tally = [3, 3, 2, 2, 2, 2]
        for one, other in both_ways(6):
            self.assertEqual(pair_told(tally, one, other), pair_told(tally, one, other))
        self.assertEqual(tally, [3, 3, 2, 2, 2, 2])


class PairShows(unittest.TestCase):
    def test_each_wall_of_small_tallies(self):
        for places in range(2, 5):
            for tally in webs_by_tally(places):
                for one, other in both_ways(places):
                    for word, more in (("all", 1), ("none", -1)):
                        beside = changed(tally, one, other, more)
                        for wall in WALLS:
                            shown = pair_shows(tally, one, other, (word, wall))
                            self.assertIs(shown, wall_shows(beside, wall), (tally, one, other, word, wall))

    def test_any_right_wall_and_no_wrong_one(self):
        # One more at both makes [2, 2]: both rooms are below nought.
        self.assertEqual(
            [wall for wall in WALLS if pair_shows([1, 1], 0, 1, ("all", wall))], [("wall", 1), ("wall", 2)]
        )
        self.assertEqual([wall for wall in WALLS if pair_shows([1, 1], 0, 1, ("none", wall))], [])
        # One fewer at both makes [-1, -1].
        self.assertEqual(
            [wall for wall in WALLS if pair_shows((0, 0), 0, 1, ("none", wall))],
            [("below", 0), ("below", 1)],
        )
        self.assertEqual([wall for wall in WALLS if pair_shows((0, 0), 0, 1, ("all", wall))], [])

    def test_any_two_right_webs_and_no_others(self):
        for places in (2, 3, 4):
            webs = list(all_webs(places))
            for tally, right in webs_by_tally(places).items():
                for one, other in all_pairs(places):
                    for with_it, without in itertools.product(right + webs[::9], repeat=2):
                        expected = with_it in right and without in right
                        expected = expected and has(with_it, one, other) and not has(without, one, other)
                        for told in (pair_shows(tally, one, other, ("some", with_it, without)),
                                     pair_shows(list(tally), other, one, ("some", with_it, without))):
                            self.assertIs(told, expected)

    def test_the_two_webs_turned_about(self):
        first, second = (4, ((0, 1), (2, 3))), (4, ((0, 2), (1, 3)))
        for one, other in ((0, 1), (1, 0), (2, 3), (3, 2)):
            self.assertIs(pair_shows([1] * 4, one, other, ("some", first, second)), True)
            self.assertIs(pair_shows([1] * 4, one, other, ("some", second, first)), False)
            self.assertIs(pair_shows([1] * 4, one, other, ("some", first, first)), False)
            self.assertIs(pair_shows([1] * 4, one, other, ("some", second, second)), False)

    def test_great_webs(self):
        first, second = round_web(24, 1, 2), round_web(24, 3, 5)
        self.assertIs(pair_shows([4] * 24, 0, 23, ("some", first, second)), True)
        self.assertIs(pair_shows([4] * 24, 23, 0, ("some", second, first)), False)
        self.assertIs(pair_shows([4] * 23 + [2], 0, 23, ("some", first, second)), False)
        self.assertIs(pair_shows([4] * 24, 0, 23, ("all", ("wall", 1))), False)
        self.assertIs(pair_shows([4] * 24, 0, 23, ("none", ("wall", 1))), False)

    def test_webs_that_are_not_told_so(self):
        first, second = (4, ((0, 1), (2, 3))), (4, ((0, 2), (1, 3)))
        for wrong in (
            (4, ((1, 0), (2, 3))), (4, ((2, 3), (0, 1))), (4, ((0, 1), (0, 1), (2, 3))), (4, ((0, 1),)),
            (4, ((0, 1), (0, 2), (2, 3))), (5, ((0, 1), (2, 3))), (3, ((0, 1), (2, 3))), (4, ((0, 1), (2, 4))),
            (4, ((0, 1), (-2, 3))), (0, ()), (-1, ()), (25, ((0, 1), (2, 3))), (SIXTY, ((0, 1), (2, 3))),
            (-SIXTY, ()), (4, ((0, 1), (2, SIXTY))), (4, ((0, 1), (2, 2), (3, 3))), (4, ()), (1, ()),
        ):
            with self.subTest(wrong=wrong):
                self.assertIs(pair_shows([1] * 4, 0, 1, ("some", wrong, second)), False)
        for wrong in (
            (4, ((2, 0), (1, 3))), (4, ((1, 3), (0, 2))), (4, ((0, 2),)), (5, ((0, 2), (1, 3))), (0, ()),
            (SIXTY, ((0, 2), (1, 3))), (4, ((0, 2), (1, SIXTY))), (4, ((0, 2), (1, 3), (1, 3))), (1, ()),
        ):
            with self.subTest(wrong=wrong):
                self.assertIs(pair_shows([1] * 4, 0, 1, ("some", first, wrong)), False)

    def test_what_is_handed_in_stays(self):
        tally = [1, 2, 1]
        for told in (("all", ("wall", 1)), ("none", ("odd",)), ("some", (3, ()), (3, ((0, 1),)))):
            self.assertIs(pair_shows(tally, 0, 1, told), pair_shows(tally, 0, 1, told))
        self.assertEqual(tally, [1, 2, 1])


class AlwaysAndNever(unittest.TestCase):
    def test_held_against_all_webs_of_small_tallies(self):
        for places in range(1, 6):
            pairs = all_pairs(places)
            for tally, webs in webs_by_tally(places).items():
                in_all = [pair for pair in pairs if all(pair in web[1] for web in webs)]
                in_none = [pair for pair in pairs if not any(pair in web[1] for web in webs)]
                for handed in (tally, list(tally)):
                    self.assertEqual(always(handed), in_all)
                    self.assertEqual(never(handed), in_none)

    def test_by_hand(self):
        self.assertEqual((always([0]), never([0])), ([], []))
        self.assertEqual((always([1, 2, 1]), never([1, 2, 1])), ([(0, 1), (1, 2)], [(0, 2)]))
        self.assertEqual((always([1] * 4), never([1] * 4)), ([], []))

    def test_24_places(self):
        pairs = all_pairs(24)
        star = [(0, end) for end in range(1, 24)]
        self.assertEqual((always([23] * 24), never([23] * 24)), (pairs, []))
        self.assertEqual((always((0,) * 24), never((0,) * 24)), ([], pairs))
        self.assertEqual(always([23] + [1] * 23), star)
        self.assertEqual(never([23] + [1] * 23), [pair for pair in pairs if pair[0] > 0])
        self.assertEqual((always([4] * 24), never([4] * 24)), ([], []))
        self.assertEqual(always([23] + [3] * 23), star)
        self.assertEqual(never([23] + [3] * 23), [])

    def test_lists_of_their_own(self):
        tally = [1, 2, 1]
        for told in (always, never):
            first, second = told(tally), told(tally)
            self.assertIsNot(first, second)
            self.assertEqual(first, second)
            self.assertIs(type(first), list)
            self.assertTrue(all(type(pair) is tuple for pair in first))
            first.clear()
            self.assertEqual(told(tally), second)
        self.assertEqual(tally, [1, 2, 1])
        self.assertIsNot(always([0]), never([0]))


class Refusals(unittest.TestCase):
    def assert_all_refuse(self, error, tally, one, other):
        with self.subTest(tally=tally, one=one, other=other):
            with self.assertRaises(error):
                pair_told(tally, one, other)
            for told in (("all", ("odd",)), ("none", ("below", 0)), ("some", (1, ()), (1, ()))):
                with self.assertRaises(error):
                    pair_shows(tally, one, other, told)

    def test_no_tally_ahead_of_all_else(self):
        for tally in NOT_TALLIES + ([-1] * 25, (1,) * 25):
            for one, other in ((0, 1), (0, 0), (-1, 0), (0, 30), (SIXTY, SIXTY)):
                self.assert_all_refuse(BadTally, tally, one, other)
            for told in (always, never):
                with self.assertRaises(BadTally):
                    told(tally)

    def test_no_web_ahead_of_no_place(self):
        for tally in WITHOUT_WEB:
            for one, other in ((0, 1), (1, 0), (0, 0), (-1, 0), (0, 24), (SIXTY, -SIXTY)):
                self.assert_all_refuse(NoWeb, tally, one, other)
            for told in (always, never):
                with self.subTest(tally=tally, told=told.__name__):
                    with self.assertRaises(NoWeb):
                        told(tally)

    def test_no_place(self):
        for tally in ([1, 2, 1], (1, 2, 1)):
            for number in (-1, -2, -3, -4, 3, 4, 24, SIXTY, -SIXTY):
                for one, other in ((0, number), (number, 0), (2, number), (number, 2), (number, number)):
                    self.assert_all_refuse(NoPlace, tally, one, other)
        self.assert_all_refuse(NoPlace, [4] * 24, 24, 0)
        self.assert_all_refuse(NoPlace, [4] * 24, 23, -1)
        self.assert_all_refuse(NoPlace, [0], 0, 1)

    def test_the_same_place_twice(self):
        for tally in ([0], [1, 1], (1, 2, 1), [4] * 24):
            for place in range(len(tally)):
                self.assert_all_refuse(NoPlace, tally, place, place)


if __name__ == "__main__":
    unittest.main()
