"""Points [21] and [22] and the interface of tallyweb/thick.py."""

import itertools
import unittest

from small import (
    NOT_TALLIES, SIXTY, all_pairs, counted, great_webs, is_wall, room_by_the_words, round_web, told_wall,
)
from tallyweb.errors import BadNumber, BadTally
from tallyweb.laying import answer_shows, answered
from tallyweb.thick import least_most, thick_answered, thick_room, thick_shows
from tallyweb.walls import room, wall_of

GREATEST = 10 ** 6
NOT_MOSTS = (0, -1, -2, -GREATEST, GREATEST + 1, 10 ** 7, SIXTY, -SIXTY)
NUMBERS = (0, 1, 2, 3, 4, 5, -1, -2, 23, 24, 25, SIXTY, -SIXTY)
WALLS = [("odd",)] + [(word, number) for word in ("below", "wall") for number in NUMBERS]


def thick_counted(web):
    tally = [0] * web[0]
    for one, other, many in web[1]:
        tally[one] += many
        tally[other] += many
    return tuple(tally)


def all_thick_webs(places, most):
    pairs = all_pairs(places)
    for numbers in itertools.product(range(most + 1), repeat=len(pairs)):
        yield (places, tuple(pair + (many,) for pair, many in zip(pairs, numbers) if many > 0))


def is_thick_web(web, most):
    """Whether it is told as point [21] says, kinds and all."""
    if type(web) is not tuple or len(web) != 2 or type(web[0]) is not int or type(web[1]) is not tuple:
        return False
    for triple in web[1]:
        if type(triple) is not tuple or [type(part) for part in triple] != [int, int, int]:
            return False
        if not 0 <= triple[0] < triple[1] < web[0] or not 1 <= triple[2] <= most:
            return False
    pairs = [triple[:2] for triple in web[1]]
    return 1 <= web[0] <= 24 and pairs == sorted(set(pairs))


def great_thick_webs():
    for places in (2, 3, 8, 15, 23, 24):
        for most in (1, 2, 3, 10, 999, 123456, GREATEST):
            for turn in (1, 2, 5):
                numbers = [
                    (one * one * turn * 7919 + other * 104729 + one * other * 31 + turn * turn * 65537) % (most + 1)
                    for one, other in all_pairs(places)
                ]
                pairs = zip(all_pairs(places), numbers)
                kept = [pair + (many,) for pair, many in pairs if many > 0 and (pair[0] + pair[1] * turn) % 4 < turn]
                yield (places, tuple(kept)), most


class ThickRoom(unittest.TestCase):
    def test_by_hand(self):
        self.assertEqual(thick_room([3, 3], 2, 0), 0)
        self.assertEqual(thick_room([3, 3], 2, 1), -1)
        self.assertEqual(thick_room([3, 3], 3, 1), 0)
        self.assertEqual(thick_room([3, 3], 2, 2), -2)
        self.assertEqual(thick_room((1, 9, 4), 3, 1), 1 + 3 - 9)
        self.assertEqual(thick_room((1, 9, 4), 3, 2), 6 + 1 - 13)
        self.assertEqual(thick_room((1, 9, 4), 3, 3), 18 - 14)
        self.assertEqual(thick_room([5, -2, 0], 10, 1), -2 + 0 - 5)
        self.assertEqual(thick_room([5, -2, 0], 10, 0), -2)

    def test_small_tallies_at_every_r(self):
        for places in range(1, 5):
            for tally in itertools.product((-3, 0, 1, 2, 5, 8), repeat=places):
                for most in (1, 2, 3, 7):
                    for r in range(places + 1):
                        self.assertEqual(thick_room(tally, most, r), room_by_the_words(tally, r, most))

    def test_with_the_most_1_the_same_as_room(self):
        tallies = list(itertools.product(range(-1, 4), repeat=4)) + [counted(web) for web in great_webs()]
        for tally in tallies:
            for r in range(len(tally) + 1):
                self.assertEqual(thick_room(tally, 1, r), room(tally, r))

    def test_great_tallies(self):
        for web, most in great_thick_webs():
            tally = list(thick_counted(web))
            tally[0] -= 2 * most * len(tally)
            for handed in (tally, tuple(tally)):
                for r in range(len(tally) + 1):
                    self.assertEqual(thick_room(handed, most, r), room_by_the_words(tally, r, most))
        # With all the ties that are let there is no room to spare, whichever places are taken.
        for r in range(25):
            self.assertEqual(thick_room([23 * GREATEST] * 24, GREATEST, r), 0)

    def test_numbers_of_sixty_figures(self):
        self.assertEqual(thick_room([SIXTY, -SIXTY, 3], GREATEST, 1), 3 - 2 * SIXTY)
        self.assertEqual(thick_room([SIXTY, SIXTY], GREATEST, 1), GREATEST - SIXTY)
        self.assertEqual(thick_room([SIXTY, SIXTY], GREATEST, 2), 2 * GREATEST - 2 * SIXTY)
        self.assertEqual(thick_room([-SIXTY] * 24, 5, 24), 5 * 24 * 23 + 24 * SIXTY)

    def test_refusals(self):
        for tally in NOT_TALLIES:
            for most, r in ((1, 0), (0, 0), (1, -1), (SIXTY, SIXTY), (5, 25)):
                with self.assertRaises(BadTally):
                    thick_room(tally, most, r)
        for most in NOT_MOSTS:
            for r in (0, 1, 2, 3, -1):
                with self.subTest(most=most, r=r):
                    with self.assertRaises(BadNumber):
                        thick_room([1, 1], most, r)
        for tally in ([1, 1], (3, 2, 1), [0], [5] * 24):
            for most in (1, 2, GREATEST):
                for r in (-1, -2, len(tally) + 1, len(tally) + 2, SIXTY, -SIXTY):
                    with self.subTest(tally=tally, most=most, r=r):
                        with self.assertRaises(BadNumber):
                            thick_room(tally, most, r)

    def test_what_is_handed_in_stays(self):
        tally = [1, 9, 4]
        self.assertEqual(thick_room(tally, 3, 1), thick_room(tally, 3, 1))
        self.assertEqual(tally, [1, 9, 4])


class ThickAnswered(unittest.TestCase):
    def assert_answered_by_a_web(self, tally, most):
        for handed in (list(tally), tuple(tally)):
            told = thick_answered(handed, most)
            self.assertIs(type(told), tuple)
            self.assertEqual((len(told), told[0]), (2, "web"), (tally, most))
            self.assertTrue(is_thick_web(told[1], most), (tally, most, told))
            self.assertEqual(told[1][0], len(tally))
            self.assertEqual(thick_counted(told[1]), tuple(tally))
            self.assertIs(thick_shows(handed, most, told), True)

    def test_by_hand(self):
        self.assertEqual(thick_answered([0], 1), ("web", (1, ())))
        self.assertEqual(thick_answered([0, 0], GREATEST), ("web", (2, ())))
        self.assertEqual(thick_answered((3, 3), 3), ("web", (2, ((0, 1, 3),))))
        self.assertEqual(thick_answered([3, 3], 2), ("wall", ("wall", 1)))
        self.assertEqual(thick_answered([2, 5, 3], 3), ("web", (3, ((0, 1, 2), (1, 2, 3)))))
        self.assertEqual(thick_answered([2, 5, 3], 2), ("wall", ("wall", 1)))
        self.assertEqual(thick_answered([3, 2], 5), ("wall", ("odd",)))
        self.assertEqual(thick_answered([3, -2], 5), ("wall", ("below", 1)))
        self.assertEqual(thick_answered([-1, 3, -2], 5), ("wall", ("below", 0)))

    def test_held_against_all_thick_webs_of_small_tallies(self):
        for places, most in ((1, 1), (1, 5), (2, 1), (2, 2), (2, 4), (3, 1), (3, 2), (3, 3), (4, 1), (4, 2)):
            held = {thick_counted(web) for web in all_thick_webs(places, most)}
            for tally in itertools.product(range(-1, most * (places - 1) + 2), repeat=places):
                if tally in held:
                    self.assert_answered_by_a_web(tally, most)
                else:
                    wall = told_wall(tally, most)
                    self.assertIsNotNone(wall)
                    self.assertEqual(thick_answered(tally, most), ("wall", wall))
                    self.assertEqual(thick_answered(list(tally), most), ("wall", wall))

    def test_every_tally_of_thick_webs_of_four_and_five_places(self):
        for places, most in ((4, 3), (5, 2)):
            for tally in sorted({thick_counted(web) for web in all_thick_webs(places, most)})[::5]:
                self.assert_answered_by_a_web(tally, most)

    def test_great_tallies(self):
        for web, most in great_thick_webs():
            tally = thick_counted(web)
            self.assertIsNone(told_wall(tally, most))
            self.assert_answered_by_a_web(tally, most)
            self.assert_answered_by_a_web(tally[::-1], most)
            self.assert_answered_by_a_web(sorted(tally), most)
            self.assert_answered_by_a_web(sorted(tally, reverse=True), most)

    def test_great_tallies_changed_a_little(self):
        seen = []
        for web, most in great_thick_webs():
            tally = list(thick_counted(web))
            for one, other, more in ((0, 1, most), (0, -1, most // 2 + 1), (1, 0, -1), (-1, 0, most * 7)):
                beside = list(tally)
                beside[one] += more
                beside[other] -= more
                wall = told_wall(beside, most)
                seen.append(wall is None)
                if wall is None:
                    self.assert_answered_by_a_web(beside, most)
                else:
                    self.assertEqual(thick_answered(beside, most), ("wall", wall))
        self.assertGreater(seen.count(True), 30)
        self.assertGreater(seen.count(False), 30)

    def test_with_the_most_1_thick_webs_are_webs(self):
        for web in great_webs():
            tally = counted(web)
            self.assert_answered_by_a_web(tally, 1)
            thin = tuple(triple[:2] for triple in thick_answered(tally, 1)[1][1])
            self.assertIs(answer_shows(tally, ("web", (len(tally), thin))), True)
        for tally in itertools.product(range(-1, 5), repeat=4):
            told = thick_answered(tally, 1)
            if told[0] == "wall":
                self.assertEqual(told, answered(tally))
            else:
                self.assertIsNone(wall_of(tally))

    def test_24_places(self):
        full = tuple(pair + (GREATEST,) for pair in all_pairs(24))
        self.assertEqual(thick_answered([23 * GREATEST] * 24, GREATEST), ("web", (24, full)))
        self.assertEqual(thick_answered([23 * GREATEST + 1] * 24, GREATEST), ("wall", ("wall", 1)))
        self.assertEqual(thick_answered([23 * GREATEST] * 24, GREATEST - 1), ("wall", ("wall", 1)))
        for tally, most in (
            ([1] * 24, 1), ([1] * 24, GREATEST), ([2] * 24, 2), ([12345] * 24, 537), ([12345] * 24, 12345),
            ([23 * 77] + [77] * 23, 77), ([77] * 23 + [23 * 77], 77), ([23 * 77] + [77] * 23, 100),
            ([GREATEST] * 24, GREATEST), ([0] * 22 + [GREATEST] * 2, GREATEST), (list(range(1, 25)), 3),
            ([place * 1000 for place in range(24)], 1100), ([10 ** 7 + place for place in range(24)], 500000),
        ):
            self.assert_answered_by_a_web(tally, most)

    def test_numbers_of_sixty_figures(self):
        self.assertEqual(thick_answered([SIXTY, SIXTY], GREATEST), ("wall", ("wall", 1)))
        self.assertEqual(thick_answered([SIXTY] * 3, GREATEST), ("wall", ("odd",)))
        self.assertEqual(thick_answered([SIXTY, -SIXTY], 1), ("wall", ("below", 1)))

    def test_the_same_asked_twice_and_what_is_handed_in_stays(self):
        tally = [7, 3, 5, 9, 4]
        self.assertEqual(thick_answered(tally, 4), thick_answered(tally, 4))
        self.assertEqual(tally, [7, 3, 5, 9, 4])

    def test_refusals(self):
        for tally in NOT_TALLIES + ([-1] * 25,):
            for most in (1, 0, SIXTY):
                with self.assertRaises(BadTally):
                    thick_answered(tally, most)
        for most in NOT_MOSTS:
            for tally in ([1, 1], (0,), [-1, 3], [1], [SIXTY] * 24):
                with self.subTest(most=most, tally=tally):
                    with self.assertRaises(BadNumber):
                        thick_answered(tally, most)


class ThickShows(unittest.TestCase):
    def test_each_right_web_and_no_other(self):
        for places, most in ((1, 2), (2, 3), (3, 2)):
            webs = list(all_thick_webs(places, most + 1))
            for tally in sorted({thick_counted(web) for web in webs}):
                for web in webs:
                    expected = thick_counted(web) == tally and is_thick_web(web, most)
                    self.assertIs(thick_shows(tally, most, ("web", web)), expected, (tally, web))
                    self.assertIs(thick_shows(list(tally), most, ("web", web)), expected)

    def test_great_webs(self):
        for web, most in great_thick_webs():
            tally = thick_counted(web)
            self.assertIs(thick_shows(tally, most, ("web", web)), True)
            if web[1]:
                greatest = max(triple[2] for triple in web[1])
                self.assertIs(thick_shows(tally, greatest, ("web", web)), True)
                if greatest > 1:
                    self.assertIs(thick_shows(tally, greatest - 1, ("web", web)), False)
                fewer = web[1][:-1] + (web[1][-1][:2] + (web[1][-1][2] - 1,),)
                self.assertIs(thick_shows(tally, most, ("web", (web[0], fewer))), False)
                self.assertIs(thick_shows(tally, most, ("web", (web[0], web[1][::-1]))), len(web[1]) == 1)

    def test_webs_that_are_not_told_so(self):
        tally, right = [3, 3, 2], (3, ((0, 1, 2), (0, 2, 1), (1, 2, 1)))
        self.assertIs(thick_shows(tally, 2, ("web", right)), True)
        for wrong in (
            (3, ((1, 0, 2), (0, 2, 1), (1, 2, 1))), (3, ((0, 1, 2), (2, 0, 1), (1, 2, 1))),
            (3, ((0, 2, 1), (0, 1, 2), (1, 2, 1))), (3, ((0, 1, 2), (1, 2, 1), (0, 2, 1))),
            (3, ((0, 1, 1), (0, 1, 1), (0, 2, 1), (1, 2, 1))), (3, ((0, 1, 2), (0, 1, 2), (0, 2, 1), (1, 2, 1))),
            (3, ((0, 1, 2), (0, 2, 1), (1, 2, 1), (1, 2, 1))), (3, ((0, 1, 2), (0, 2, 1))), (3, ()),
            (4, ((0, 1, 2), (0, 2, 1), (1, 2, 1))), (2, ((0, 1, 2), (0, 2, 1), (1, 2, 1))), (2, ((0, 1, 3),)),
            (1, ()), (0, ()), (-1, ()), (25, right[1]), (24, right[1]), (SIXTY, right[1]), (-SIXTY, right[1]),
            (3, ((0, 1, 2), (0, 3, 1), (1, 2, 1))), (3, ((0, 1, 2), (-1, 2, 1), (1, 2, 1))),
            (3, ((-3, 1, 2), (0, 2, 1), (1, 2, 1))), (3, ((0, 1, 2), (0, SIXTY, 1), (1, 2, 1))),
            (3, ((-SIXTY, 1, 2), (0, 2, 1), (1, 2, 1))), (3, ((0, 1, 2), (0, 2, 1), (1, -1, 1))),
            (3, ((0, 0, 1), (0, 1, 1), (0, 2, 1), (1, 1, 1), (1, 2, 1))), (3, ((0, 1, 3), (2, 2, 1))),
            (3, ((0, 1, SIXTY), (0, 2, 1), (1, 2, 1))), (3, ((0, 1, -SIXTY), (0, 2, 1), (1, 2, 1))),
        ):
            with self.subTest(wrong=wrong):
                self.assertIs(thick_shows(tally, 2, ("web", wrong)), False)
                self.assertIs(thick_shows(tuple(tally), GREATEST, ("web", wrong)), False)

    def test_many_of_nought_or_below_or_more_than_the_most(self):
        # All of these have just the asked tally.
        for tally, most, web in (
            ([0, 0], 1, (2, ((0, 1, 0),))), ([-1, -1], 1, (2, ((0, 1, -1),))), ([2, 2], 1, (2, ((0, 1, 2),))),
            ([GREATEST + 1] * 2, GREATEST, (2, ((0, 1, GREATEST + 1),))), ([3, 3], 2, (2, ((0, 1, 3),))),
            ([1, 1, 0], 3, (3, ((0, 1, 1), (0, 2, 0)))), ([1, 1, 2], 3, (3, ((0, 1, 0), (0, 2, 1), (1, 2, 1)))),
            ([1, 2, 3], 3, (3, ((0, 1, 0), (0, 2, 1), (1, 2, 2)))),
            ([0, 2, 0], 3, (3, ((0, 1, 1), (0, 2, -1), (1, 2, 1)))),
            ([SIXTY] * 2, GREATEST, (2, ((0, 1, SIXTY),))), ([-SIXTY] * 2, GREATEST, (2, ((0, 1, -SIXTY),))),
        ):
            with self.subTest(tally=tally, web=web):
                self.assertIs(thick_shows(tally, most, ("web", web)), False)
        self.assertIs(thick_shows([GREATEST] * 2, GREATEST, ("web", (2, ((0, 1, GREATEST),)))), True)
        self.assertIs(thick_shows([1, 1], 1, ("web", (2, ((0, 1, 1),)))), True)

    def test_more_than_24_places_and_none(self):
        self.assertIs(thick_shows([0] * 24, 1, ("web", (24, ()))), True)
        self.assertIs(thick_shows([0] * 24, 1, ("web", (25, ()))), False)
        self.assertIs(thick_shows([0] * 24, 1, ("web", (23, ()))), False)
        self.assertIs(thick_shows([0], 1, ("web", (1, ()))), True)
        self.assertIs(thick_shows([0], 1, ("web", (0, ()))), False)

    def test_each_wall_of_small_tallies(self):
        for places in range(1, 4):
            for tally in itertools.product((-2, -1, 0, 1, 2, 5), repeat=places):
                for most in (1, 2, 4):
                    for wall in WALLS:
                        shown = thick_shows(tally, most, ("wall", wall))
                        self.assertIs(shown, is_wall(tally, wall, most), (tally, most, wall))

    def test_any_right_wall_and_no_wrong_one(self):
        shown = [wall for wall in WALLS if thick_shows([9, 9, -1], 2, ("wall", wall))]
        self.assertEqual(shown, [("odd",), ("below", 2), ("wall", 1), ("wall", 2), ("wall", 3)])
        self.assertEqual([wall for wall in WALLS if thick_shows([9, 9, 2], 8, ("wall", wall))], [])
        self.assertEqual([wall for wall in WALLS if thick_shows([9, 9, 2], 7, ("wall", wall))], [("wall", 2)])
        # The room at nought is below nought here, which is no wall.
        self.assertLess(thick_room([-5], 9, 0), 0)
        self.assertIs(thick_shows([-5], 9, ("wall", ("wall", 0))), False)
        self.assertIs(thick_shows([-5], 9, ("wall", ("below", 0))), True)

    def test_walls_of_24_places(self):
        tally = [23 * 50 + 2] + [50] * 23
        shown = [wall for wall in WALLS if thick_shows(tally, 50, ("wall", wall))]
        self.assertEqual(shown, [("wall", 1), ("wall", 2)])
        self.assertIs(thick_shows([50] * 23 + [-1], 50, ("wall", ("below", 23))), True)
        self.assertIs(thick_shows([50] * 23 + [-1], 50, ("wall", ("below", -1))), False)
        self.assertIs(thick_shows([24 * 50] * 24, 50, ("wall", ("wall", 24))), True)
        self.assertIs(thick_shows([24 * 50] * 24, 50, ("wall", ("wall", 25))), False)

    def test_refusals(self):
        for told in (("web", (2, ((0, 1, 1),))), ("wall", ("odd",)), ("wall", ("wall", 1)), ("wall", ("below", 99))):
            for tally in NOT_TALLIES + ([-1] * 25,):
                for most in (1, 0, SIXTY):
                    with self.assertRaises(BadTally):
                        thick_shows(tally, most, told)
            for most in NOT_MOSTS:
                for tally in ([1, 1], (-1,), [1]):
                    with self.subTest(most=most, tally=tally, told=told):
                        with self.assertRaises(BadNumber):
                            thick_shows(tally, most, told)


class LeastMost(unittest.TestCase):
    def test_by_hand(self):
        self.assertEqual(least_most([0]), 1)
        self.assertEqual(least_most((0,) * 24), 1)
        self.assertEqual(least_most([1, 1]), 1)
        self.assertEqual(least_most([3, 3]), 3)
        self.assertEqual(least_most([2, 5, 3]), 3)
        self.assertEqual(least_most([2, 2, 2]), 1)
        self.assertEqual(least_most([4, 4, 4]), 2)
        self.assertEqual(least_most([3, 3, 1, 1]), 2)
        self.assertIsNone(least_most([1]))
        self.assertIsNone(least_most([2]))
        self.assertIsNone(least_most([1, 3]))
        self.assertIsNone(least_most([5, 1, 2]))
        self.assertIsNone(least_most([2, 1]))
        self.assertIsNone(least_most([1, -1]))

    def test_held_against_all_thick_webs_of_small_tallies(self):
        for places, greatest in ((1, 3), (2, 6), (3, 5), (4, 2)):
            least = {}
            for most in range(1, greatest + 1):
                for web in all_thick_webs(places, most):
                    least.setdefault(thick_counted(web), most)
            for tally, most in least.items():
                self.assertEqual(least_most(tally), most, tally)
                self.assertEqual(least_most(list(tally)), most, tally)
            for tally in itertools.product(range(-1, greatest + 1), repeat=places):
                if tally not in least:
                    told = least_most(tally)
                    self.assertTrue(told is None or told > greatest, tally)

    def test_every_small_tally(self):
        # No tally of numbers up to 6 has more than 6 ties between two, so mosts beyond need not be tried.
        for places in range(1, 5):
            for tally in itertools.product(range(-1, 7), repeat=places):
                let = [most for most in range(1, 7) if told_wall(tally, most) is None]
                self.assertEqual(least_most(tally), let[0] if let else None, tally)

    def test_great_tallies(self):
        for web, most in great_thick_webs():
            tally = thick_counted(web)
            least = least_most(tally)
            self.assertIs(type(least), int)
            self.assertLessEqual(least, most)
            self.assertGreaterEqual(least, 1)
            self.assertEqual(thick_answered(tally, least)[0], "web")
            if least > 1:
                self.assertEqual(thick_answered(tally, least - 1)[0], "wall")
        for many in (1, 2, 3, 537, 12345, 999999, GREATEST):
            self.assertEqual(least_most([23 * many] * 24), many)
            self.assertEqual(least_most([23 * many] + [many] * 23), many)
            self.assertEqual(least_most([many, many] + [0] * 22), many)
            self.assertEqual(least_most([0] * 10 + [2 * many] * 3), many)
        self.assertEqual(least_most(counted(round_web(24, 1, 5))), 1)

    def test_none_up_to_the_greatest_most(self):
        for tally in (
            [GREATEST + 1] * 2, [23 * GREATEST + 1] * 24, [23 * GREATEST + 2] + [GREATEST] * 23, [SIXTY] * 2,
            [SIXTY] * 24, [-1], [-1, 1], [-SIXTY] * 2, [1] * 23, (3, 2), [SIXTY], [2 * GREATEST + 2] * 3,
            [0] * 23 + [2], [-2] + [1] * 22, [5, -1, 1, 1],
        ):
            self.assertIsNone(least_most(tally), tally)
        self.assertEqual(least_most([GREATEST] * 2), GREATEST)
        self.assertEqual(least_most([2 * GREATEST] * 3), GREATEST)
        self.assertEqual(least_most([2 * GREATEST - 2] * 3), GREATEST - 1)

    def test_the_same_asked_twice_and_what_is_handed_in_stays(self):
        tally = [7, 3, 5, 9, 4]
        self.assertEqual(least_most(tally), least_most(tally))
        self.assertEqual(tally, [7, 3, 5, 9, 4])

    def test_no_tally(self):
        for tally in NOT_TALLIES + ([-1] * 25, (SIXTY,) * 25):
            with self.assertRaises(BadTally):
                least_most(tally)


if __name__ == "__main__":
    unittest.main()
