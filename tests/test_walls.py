"""Points [7] and [8], and the interface of tallyweb/walls.py."""

import itertools
import unittest

from small import NOT_TALLIES, SIXTY, all_webs, counted, great_webs, room_by_the_words, webs_by_tally
from tallyweb.errors import BadNumber, BadTally
from tallyweb.walls import room, wall_of, wall_shows

GREAT_TALLIES = (
    [0] * 24,
    [23] * 24,
    [24] * 24,
    list(range(24)),
    list(range(-12, 12)),
    [23, 0, 22, 1, 21, 2, 20, 3, 19, 4, 18, 5, 17, 6, 16, 7, 15, 8, 14, 9, 13, 10, 12, 11],
    [-5, 30, 2, 2, 2, -1, 7, 7, 7, 7, 9, 9, 9, 0, 0, 23, 23, 4, 4, 4, 1, 1, 1, -5],
    [SIXTY, -SIXTY] * 12,
    [SIXTY] * 23 + [-SIXTY],
    [SIXTY - place for place in range(24)],
)


class Room(unittest.TestCase):
    def test_told_by_hand(self):
        # The numbers fall 3, 2, 2, 1: at 2 there are 2, and min(2, 2) + min(1, 2), less 3 + 2.
        self.assertEqual([room([2, 1, 3, 2], r) for r in range(5)], [0, 0, 0, 0, 4])
        self.assertEqual([room([3, 3, 1, 1], r) for r in range(5)], [0, 0, -2, 0, 4])
        self.assertEqual([room([5], r) for r in range(2)], [0, -5])

    def test_numbers_below_nought_count_as_they_are(self):
        self.assertEqual([room([1, -2, 0, -4], r) for r in range(5)], [-6, -7, -5, 3, 17])
        self.assertEqual([room([-3], r) for r in range(2)], [-3, 3])
        self.assertEqual([room([-1, -1, -1], r) for r in range(4)], [-3, -1, 3, 9])

    def test_every_r_of_every_small_tally(self):
        for places in range(1, 5):
            for tally in itertools.product(range(-2, 5), repeat=places):
                for r in range(places + 1):
                    expected = room_by_the_words(tally, r)
                    self.assertEqual(room(tally, r), expected)
                    self.assertEqual(room(list(tally), r), expected)
                    self.assertIs(type(room(tally, r)), int)

    def test_every_r_of_great_tallies(self):
        for tally in GREAT_TALLIES:
            for r in range(25):
                with self.subTest(tally=tally, r=r):
                    self.assertEqual(room(tally, r), room_by_the_words(tally, r))
                    self.assertEqual(room(tuple(tally), r), room_by_the_words(tally, r))

    def test_numbers_of_sixty_figures(self):
        self.assertEqual(room([SIXTY, 1, SIXTY], 1), 2 - SIXTY)
        self.assertEqual(room([SIXTY, 1, SIXTY], 2), 3 - 2 * SIXTY)
        self.assertEqual(room([SIXTY, 1, SIXTY], 3), 5 - 2 * SIXTY)
        self.assertEqual(room([-SIXTY, -SIXTY], 0), -2 * SIXTY)
        self.assertEqual(room([-SIXTY, -SIXTY], 2), 2 + 2 * SIXTY)

    def test_never_below_nought_in_a_web(self):
        for web in list(all_webs(4)) + list(great_webs()):
            for r in range(web[0] + 1):
                self.assertGreaterEqual(room(counted(web), r), 0)

    def test_refuses_other_r(self):
        for tally in ([0], (0,), [1, 1], [-1, 4, 0], [2] * 24, (SIXTY,) * 24):
            for r in (-1, -2, -len(tally), len(tally) + 1, len(tally) + 2, 100, SIXTY, -SIXTY):
                with self.subTest(tally=tally, r=r):
                    with self.assertRaises(BadNumber):
                        room(tally, r)

    def test_refuses_what_is_no_tally_ahead_of_other_r(self):
        for tally in NOT_TALLIES:
            for r in (0, 1, -1, len(tally), len(tally) + 1, 25, SIXTY, -SIXTY):
                with self.subTest(tally=tally, r=r):
                    with self.assertRaises(BadTally):
                        room(tally, r)

    def test_what_is_handed_in_stays(self):
        tally = [1, 3, 2, 0]
        self.assertEqual(room(tally, 2), room(tally, 2))
        self.assertEqual(tally, [1, 3, 2, 0])


class WallOf(unittest.TestCase):
    def test_none_just_where_there_is_a_web(self):
        for places in range(1, 5):
            held = webs_by_tally(places)
            for tally in itertools.product(range(-2, 6), repeat=places):
                self.assertEqual(wall_of(tally) is None, tally in held, tally)
                self.assertEqual(wall_of(list(tally)), wall_of(tally))

    def test_none_just_where_there_is_a_web_of_six_places(self):
        held = {tuple(sorted(counted(web), reverse=True)) for web in all_webs(6)}
        for tally in itertools.combinations_with_replacement(range(6, -1, -1), 6):
            self.assertEqual(wall_of(tally) is None, tally in held, tally)

    def test_none_of_great_webs(self):
        for web in great_webs():
            self.assertIsNone(wall_of(counted(web)))
            self.assertIsNone(wall_of(list(counted(web))))

    def test_the_told_wall_of_every_small_tally(self):
        for places in range(1, 5):
            for tally in itertools.product(range(-2, 6), repeat=places):
                below = [("below", place) for place in range(places) if tally[place] < 0]
                odd = [("odd",)] if sum(tally) % 2 else []
                wanting = [("wall", r) for r in range(1, places + 1) if room_by_the_words(tally, r) < 0]
                self.assertEqual(wall_of(tally), (below + odd + wanting + [None])[0], tally)

    def test_the_first_below_nought_ahead_of_the_rest(self):
        self.assertEqual(wall_of([9, -1, -3]), ("below", 1))
        self.assertEqual(wall_of([9, 8, -3]), ("below", 2))
        self.assertEqual(wall_of((-1,)), ("below", 0))
        self.assertEqual(wall_of([SIXTY, -SIXTY]), ("below", 1))
        self.assertEqual(wall_of([0] * 23 + [-1]), ("below", 23))
        self.assertEqual(wall_of([-1, -2] + [30] * 22), ("below", 0))

    def test_the_odd_sum_ahead_of_the_least_r(self):
        self.assertEqual(wall_of([9, 0, 0]), ("odd",))
        self.assertEqual(wall_of([1]), ("odd",))
        self.assertEqual(wall_of([SIXTY]), ("odd",))
        self.assertEqual(wall_of([SIXTY, SIXTY, 1]), ("odd",))
        self.assertEqual(wall_of([24] * 23 + [23]), ("odd",))

    def test_the_least_r(self):
        self.assertEqual(wall_of([2]), ("wall", 1))
        self.assertEqual(wall_of([SIXTY - 1]), ("wall", 1))
        self.assertEqual(wall_of([0, SIXTY, SIXTY]), ("wall", 1))
        self.assertEqual(wall_of([1, 3, 1, 3]), ("wall", 2))
        self.assertEqual(wall_of([4, 4, 4, 2, 2]), ("wall", 3))
        self.assertEqual(wall_of([2, 2, 4, 4, 4]), ("wall", 3))

    def test_only_the_last_of_many_r_wants(self):
        for places in range(5, 25):
            tally = [places - 3] * 2 + [places - 1] * (places - 2)
            wanting = [r for r in range(places + 1) if room_by_the_words(tally, r) < 0]
            self.assertEqual(wanting, [places - 2])
            self.assertEqual(wall_of(tally), ("wall", places - 2))
        tally = [11, 11, 11, 10, 9, 9, 9, 9, 2, 2, 2, 2, 2, 2, 2, 2, 1, 1, 1, 1, 1, 0, 0, 0]
        self.assertEqual([r for r in range(25) if room_by_the_words(tally, r) < 0], [8])
        self.assertEqual(wall_of(tally), ("wall", 8))

    def test_refuses_what_is_no_tally(self):
        for tally in NOT_TALLIES:
            with self.subTest(tally=tally):
                with self.assertRaises(BadTally):
                    wall_of(tally)

    def test_what_is_handed_in_stays(self):
        for tally in ([1, 3, 1, 3], [1, 2, 1], [0, -1], [1, 0]):
            before = list(tally)
            self.assertEqual(wall_of(tally), wall_of(tally))
            self.assertEqual(tally, before)


class WallShows(unittest.TestCase):
    def test_odd(self):
        for tally, shown in (
            ([1], True), ([0], False), ((2, 2, 1), True), ((2, 2, 2), False), ([-1], True), ([-2], False),
            ([-1, 1], False), ([-1, 0], True), ([SIXTY], True), ([SIXTY, SIXTY], False), ([-SIXTY], True),
        ):
            with self.subTest(tally=tally):
                self.assertIs(wall_shows(tally, ("odd",)), shown)

    def test_below(self):
        for tally in ([3, -1, 0, -SIXTY], (3, -1, 0, -SIXTY)):
            told = [wall_shows(tally, ("below", place)) for place in range(4)]
            self.assertEqual(told, [False, True, False, True])
            for number in (-1, -2, -3, -4, -5, 4, 5, 24, SIXTY, -SIXTY):
                with self.subTest(tally=tally, number=number):
                    self.assertIs(wall_shows(tally, ("below", number)), False)
        self.assertIs(wall_shows([-1], ("below", 0)), True)
        self.assertIs(wall_shows([-1], ("below", 1)), False)
        self.assertIs(wall_shows([-1], ("below", -1)), False)
        self.assertIs(wall_shows([-1] * 24, ("below", 23)), True)
        self.assertIs(wall_shows([-1] * 24, ("below", 24)), False)

    def test_wall(self):
        for tally in ([3, 3, 1, 1], (1, 3, 1, 3)):
            self.assertEqual([wall_shows(tally, ("wall", r)) for r in range(5)], [False, False, True, False, False])
        for tally in ([2], [SIXTY], [9, 9, 9, 9], (SIXTY,) * 24):
            for r in range(1, len(tally) + 1):
                with self.subTest(tally=tally, r=r):
                    self.assertIs(wall_shows(tally, ("wall", r)), room_by_the_words(tally, r) < 0)
            for r in (0, -1, -2, -len(tally), len(tally) + 1, 100, SIXTY, -SIXTY):
                with self.subTest(tally=tally, r=r):
                    self.assertIs(wall_shows(tally, ("wall", r)), False)

    def test_the_room_at_nought_is_no_wall(self):
        self.assertLess(room([-1, -1], 0), 0)
        self.assertIs(wall_shows([-1, -1], ("wall", 0)), False)
        self.assertIs(wall_shows([-1, -1, -1], ("wall", 1)), True)

    def test_each_form_of_every_small_tally(self):
        for places in range(1, 4):
            for tally in itertools.product(range(-2, 5), repeat=places):
                self.assertIs(wall_shows(tally, ("odd",)), sum(tally) % 2 == 1)
                for number in range(-2, places + 3):
                    below = 0 <= number < places and tally[number] < 0
                    self.assertIs(wall_shows(tally, ("below", number)), below)
                    wants = 1 <= number <= places and room_by_the_words(tally, number) < 0
                    self.assertIs(wall_shows(tally, ("wall", number)), wants)
                    self.assertIs(wall_shows(list(tally), ("wall", number)), wants)

    def test_any_wall_will_do_and_the_told_one_too(self):
        tally = [9, 9, 9, -1, -1]
        for wall in (("odd",), ("below", 3), ("below", 4), ("wall", 1), ("wall", 2), ("wall", 3)):
            with self.subTest(wall=wall):
                self.assertIs(wall_shows(tally, wall), True)
        for tally in itertools.product(range(-1, 5), repeat=4):
            if wall_of(tally) is not None:
                self.assertIs(wall_shows(tally, wall_of(tally)), True)

    def test_no_wall_of_a_web(self):
        for web in great_webs():
            tally = counted(web)
            walls = [("odd",)] + [(word, number) for word in ("below", "wall") for number in range(-1, 26)]
            self.assertEqual([wall for wall in walls if wall_shows(tally, wall)], [])

    def test_refuses_what_is_no_tally(self):
        for tally in NOT_TALLIES:
            for wall in (("odd",), ("below", 0), ("wall", 1), ("wall", 0), ("below", SIXTY)):
                with self.subTest(tally=tally, wall=wall):
                    with self.assertRaises(BadTally):
                        wall_shows(tally, wall)

    def test_what_is_handed_in_stays(self):
        tally = [1, 3, 1, 3]
        for wall in (("odd",), ("below", 1), ("wall", 2)):
            self.assertIs(wall_shows(tally, wall), wall_shows(tally, wall))
        self.assertEqual(tally, [1, 3, 1, 3])


if __name__ == "__main__":
    unittest.main()
