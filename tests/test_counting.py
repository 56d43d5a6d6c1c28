"""Point [25] and the interface of tallyweb/counting.py."""

import itertools
import math
import unittest

from small import NOT_TALLIES, SIXTY, all_pairs, all_webs, counted, great_webs, is_web, webs_by_tally, webs_of
from tallyweb.counting import how_many, in_how_many, number_of, web_at
from tallyweb.errors import BadNumber, BadTally, NoPlace, TooMany

MOST_WEBS = (4, 3, 3, 3, 3, 3, 3)
SEVEN = (
    MOST_WEBS, (3, 3, 3, 4, 3, 3, 3), (2,) * 7, (4,) * 7, (0,) * 7, (6,) * 7, (1, 1, 1, 1, 1, 1, 0),
    (5, 4, 3, 3, 2, 2, 1), (2, 3, 2, 3, 2, 3, 3), (1, 2, 3, 4, 3, 2, 1), (6, 1, 1, 1, 1, 1, 1), (0, 2, 4, 4, 2, 4, 2),
    (3, 2, 2, 2, 2, 2, 3),
)
LONE_SEVEN = ((0,) * 7, (6,) * 7, (6, 1, 1, 1, 1, 1, 1), (6, 5, 4, 3, 3, 2, 1))
WITHOUT = (
    [1], [-1], [5], [1, 0], (2, 2), [1, 1, 1], [-1, 1], [3, 3, 1, 1], [1] * 7, [7] * 7, [SIXTY] * 7, [-SIXTY] * 7,
    (SIXTY, -SIXTY), [0, 0, 0, 0, 0, 0, 2], (6, 6, 1, 1, 1, 1, 0), [-1, 3, 3, 3, 3, 3, 4], [2, -2, 1, 1, 1, 1],
)
TOO_MANY = ([0] * 8, (3,) * 8, [1] * 9, [2] * 23, (0,) * 24, [-1] * 8, [SIXTY] * 24, [7] * 7 + [0])
NOT_NUMBERS = (-1, -2, -SIXTY, SIXTY)


class HowMany(unittest.TestCase):
    def test_by_hand(self):
        self.assertEqual(how_many([0]), 1)
        self.assertEqual(how_many([1, 1]), 1)
        self.assertEqual(how_many((1, 1, 1, 1)), 3)
        self.assertEqual(how_many([1] * 6), 15)
        self.assertEqual(how_many([2] * 3), 1)
        # Rings of all the places: each way round is told once, from each place that it could begin with.
        self.assertEqual(how_many([2] * 4), 3)
        self.assertEqual(how_many([2] * 5), 12)
        # Rings of all the 6, or two of 3 each.
        self.assertEqual(how_many([2] * 6), 60 + 10)
        # Of 7, or of 3 and 4.
        self.assertEqual(how_many([2] * 7), 360 + 35 * 3)
        self.assertEqual(how_many([4] * 7), 465)
        for tally in LONE_SEVEN:
            self.assertEqual(how_many(tally), 1)

    def test_held_against_all_webs_of_small_tallies(self):
        for places in range(1, 5):
            held = webs_by_tally(places)
            for tally in itertools.product(range(-1, places + 1), repeat=places):
                for handed in (tally, list(tally)):
                    self.assertEqual(how_many(handed), len(held.get(tally, [])), tally)
                    self.assertIs(type(how_many(handed)), int)

    def test_held_against_all_webs_of_five_and_six_places(self):
        for places in (5, 6):
            held = webs_by_tally(places)
            for tally in list(held)[::places * places - 24]:
                self.assertEqual(how_many(tally), len(held[tally]), tally)
        for tally in itertools.combinations_with_replacement(range(7), 6):
            self.assertEqual(how_many(tally), len(held.get(tally, [])), tally)

    def test_held_against_all_webs_of_seven_places(self):
        for tally in SEVEN:
            self.assertEqual(how_many(tally), len(webs_of(tally)), tally)
            self.assertEqual(how_many(list(tally)), how_many(tally))

    def test_all_webs_of_seven_places_are_counted_once(self):
        counts = {}
        webs = 0
        for tally in itertools.combinations_with_replacement(range(7), 7):
            counts[tally] = how_many(tally)
            turned = math.factorial(7)
            for number in range(7):
                turned //= math.factorial(tally.count(number))
            webs += turned * counts[tally]
        self.assertEqual(webs, 2 ** 21)
        self.assertEqual(max(counts.values()), counts[tuple(sorted(MOST_WEBS))])

    def test_none_of_a_tally_without_a_web(self):
        for tally in WITHOUT:
            self.assertEqual(how_many(tally), 0, tally)

    def test_what_is_handed_in_stays(self):
        tally = [2, 1, 2, 1]
        self.assertEqual([how_many(tally), how_many(tally)], [2, 2])
        self.assertEqual(tally, [2, 1, 2, 1])


class Numbered(unittest.TestCase):
    def assert_numbered(self, tally, webs):
        for number, web in enumerate(webs):
            told = web_at(tally, number)
            self.assertEqual(told, web, (tally, number))
            self.assertTrue(is_web(told))
            self.assertEqual(number_of(web), number)
            self.assertIs(type(number_of(web)), int)
        for number in NOT_NUMBERS + (len(webs), len(webs) + 1):
            with self.assertRaises(BadNumber):
                web_at(tally, number)

    def test_by_hand(self):
        webs = [(4, ((0, 1), (2, 3))), (4, ((0, 2), (1, 3))), (4, ((0, 3), (1, 2)))]
        self.assert_numbered([1] * 4, webs)
        self.assert_numbered((1,) * 4, webs)
        self.assert_numbered([0], [(1, ())])
        self.assert_numbered([1, 1], [(2, ((0, 1),))])
        self.assert_numbered([2, 2, 2, 2], [
            (4, ((0, 1), (0, 2), (1, 3), (2, 3))), (4, ((0, 1), (0, 3), (1, 2), (2, 3))),
            (4, ((0, 2), (0, 3), (1, 2), (1, 3))),
        ])
        self.assert_numbered([1, 2, 1, 2], [(4, ((0, 1), (1, 3), (2, 3))), (4, ((0, 3), (1, 2), (1, 3)))])

    def test_each_web_of_small_tallies(self):
        for places in range(1, 6):
            for tally, webs in webs_by_tally(places).items():
                self.assert_numbered(tally, sorted(webs, key=lambda web: web[1]))

    def test_webs_of_six_places(self):
        held = webs_by_tally(6)
        for tally in list(held)[::97]:
            self.assert_numbered(list(tally), sorted(held[tally], key=lambda web: web[1]))
        self.assert_numbered((3,) * 6, sorted(held[(3,) * 6], key=lambda web: web[1]))

    def test_webs_of_seven_places(self):
        for tally in SEVEN:
            webs = webs_of(tally)
            self.assertEqual(webs, sorted(webs, key=lambda web: web[1]))
            self.assert_numbered(tally, webs)

    def test_webs_of_seven_places_in_any_order(self):
        for web in list(all_webs(5))[::7]:
            ties = web[1] + ((0, 6), (2, 5), (5, 6))
            put_to = (7, tuple(sorted(ties)))
            self.assertEqual(web_at(counted(put_to), number_of(put_to)), put_to)

    def test_no_number_of_a_tally_without_a_web(self):
        for tally in WITHOUT:
            for number in NOT_NUMBERS + (0, 1, 2):
                with self.subTest(tally=tally, number=number), self.assertRaises(BadNumber):
                    web_at(tally, number)

    def test_the_same_asked_twice_and_what_is_handed_in_stays(self):
        tally = list(MOST_WEBS)
        self.assertEqual(web_at(tally, 700), web_at(tally, 700))
        self.assertEqual(tally, list(MOST_WEBS))
        web = web_at(tally, 0)
        self.assertEqual([number_of(web), number_of(web)], [0, 0])


class InHowMany(unittest.TestCase):
    def assert_in(self, tally, webs):
        for one, other in all_pairs(len(tally)):
            expected = len([web for web in webs if (one, other) in web[1]])
            self.assertEqual(in_how_many(tally, one, other), expected, (tally, one, other))
            self.assertEqual(in_how_many(tally, other, one), expected, (tally, other, one))
            self.assertIs(type(in_how_many(tally, one, other)), int)

    def test_by_hand(self):
        self.assertEqual(in_how_many([1, 1, 1, 1], 0, 3), 1)
        self.assertEqual(in_how_many([1, 2, 1], 1, 0), 1)
        self.assertEqual(in_how_many((1, 2, 1), 0, 2), 0)
        self.assertEqual(in_how_many([2, 2, 2, 2], 2, 1), 2)
        self.assertEqual(in_how_many([2] * 7, 6, 5), 465 * 7 // 21)

    def test_held_against_all_webs_of_small_tallies(self):
        for places in range(2, 6):
            for tally, webs in webs_by_tally(places).items():
                self.assert_in(tally, webs)
        held = webs_by_tally(6)
        for tally in list(held)[::53]:
            self.assert_in(list(tally), held[tally])

    def test_tallies_of_seven_places(self):
        for tally in SEVEN:
            self.assert_in(tally, webs_of(tally))

    def test_nought_of_a_tally_without_a_web(self):
        for tally in WITHOUT:
            self.assert_in(tally, [])

    def test_no_place(self):
        for tally in ([1, 1, 1, 1], (2, 2, 2), [3, 3, 1, 1], [SIXTY, -1, 0], [0], MOST_WEBS, [1] * 7):
            places = len(tally)
            for number in (-1, -2, places, places + 1, 24, SIXTY, -SIXTY):
                for one, other in ((0, number), (number, 0), (number, number), (places - 1, number)):
                    with self.subTest(tally=tally, one=one, other=other), self.assertRaises(NoPlace):
                        in_how_many(tally, one, other)
            for place in range(places):
                with self.assertRaises(NoPlace):
                    in_how_many(tally, place, place)

    def test_what_is_handed_in_stays(self):
        tally = [2, 2, 2, 2]
        self.assertEqual([in_how_many(tally, 0, 1), in_how_many(tally, 0, 1)], [2, 2])
        self.assertEqual(tally, [2, 2, 2, 2])


class Refusals(unittest.TestCase):
    def assert_all_refuse(self, error, tally):
        with self.assertRaises(error):
            how_many(tally)
        for number in NOT_NUMBERS + (0, 1):
            with self.assertRaises(error):
                web_at(tally, number)
        for one, other in ((0, 1), (1, 0), (0, 0), (-1, 0), (0, 30), (SIXTY, -SIXTY)):
            with self.assertRaises(error):
                in_how_many(tally, one, other)

    def test_no_tally_ahead_of_all_else(self):
        for tally in NOT_TALLIES:
            with self.subTest(tally=tally):
                self.assert_all_refuse(BadTally, tally)

    def test_too_many_ahead_of_the_rest(self):
        for tally in TOO_MANY + tuple([0] * places for places in range(8, 25)):
            with self.subTest(tally=tally):
                self.assert_all_refuse(TooMany, tally)

    def test_webs_of_too_many_places(self):
        webs = [web for web in great_webs() if web[0] > 7] + [(places, ()) for places in range(8, 25)]
        for web in webs + [(8, ((0, 1),)), (8, tuple(all_pairs(8)))]:
            with self.assertRaises(TooMany):
                number_of(web)
        for web in great_webs():
            if web[0] == 7:
                self.assertEqual(web_at(counted(web), number_of(web)), web)


if __name__ == "__main__":
    unittest.main()
