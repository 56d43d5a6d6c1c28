"""Points [10] and [11], and the interface of tallyweb/exchanges.py."""

import itertools
import unittest

from small import SIXTY, all_pairs, all_webs, counted, great_webs, is_web, round_web, webs_by_tally
from tallyweb.errors import NoExchange, Unlike
from tallyweb.exchanges import can_exchange, exchanged, exchanges_of, led
from tallyweb.laying import answered

SQUARE = (4, ((0, 1), (2, 3)))


def has(web, one, other):
    return (one, other) in web[1] or (other, one) in web[1]


def is_exchange(web, four):
    """Point [10], word by word."""
    a, b, c, d = four
    unlike_places = len(set(four)) == 4 and all(0 <= number < web[0] for number in four)
    return unlike_places and has(web, a, b) and has(web, c, d) and not has(web, a, d) and not has(web, c, b)


def done(web, four):
    a, b, c, d = four
    ties = {frozenset(tie) for tie in web[1]}
    ties -= {frozenset((a, b)), frozenset((c, d))}
    ties |= {frozenset((a, d)), frozenset((c, b))}
    return (web[0], tuple(sorted(tuple(sorted(tie)) for tie in ties)))


def some_webs():
    """Each web of up to four places, and some of five."""
    webs = [web for places in range(1, 5) for web in all_webs(places)]
    return webs + list(all_webs(5))[::17]


class CanExchange(unittest.TestCase):
    def test_by_hand(self):
        self.assertIs(can_exchange(SQUARE, (0, 1, 2, 3)), True)
        self.assertIs(can_exchange(SQUARE, (0, 1, 3, 2)), True)
        self.assertIs(can_exchange(SQUARE, (3, 2, 0, 1)), True)
        self.assertIs(can_exchange(SQUARE, (0, 2, 1, 3)), False)
        self.assertIs(can_exchange((4, ((0, 1), (0, 3), (2, 3))), (0, 1, 2, 3)), False)
        self.assertIs(can_exchange((4, ((0, 1), (1, 2), (2, 3))), (0, 1, 2, 3)), False)
        self.assertIs(can_exchange((4, ((0, 1), (0, 2), (2, 3))), (0, 1, 2, 3)), True)
        self.assertIs(can_exchange((4, ((0, 1),)), (0, 1, 2, 3)), False)
        self.assertIs(can_exchange((4, ((2, 3),)), (0, 1, 2, 3)), False)

    def test_all_fours_of_small_webs(self):
        for web in some_webs():
            for four in itertools.product(range(-1, web[0] + 1), repeat=4):
                self.assertIs(can_exchange(web, four), is_exchange(web, four), (web, four))

    def test_numbers_that_are_no_places(self):
        for number in (-1, -2, -3, -4, 4, 5, 24, SIXTY, -SIXTY):
            for k in range(4):
                four = [0, 1, 2, 3]
                four[k] = number
                with self.subTest(four=four):
                    self.assertIs(can_exchange(SQUARE, tuple(four)), False)
            self.assertIs(can_exchange(SQUARE, (number,) * 4), False)

    def test_the_same_place_twice(self):
        path = (3, ((0, 1), (1, 2)))
        self.assertIs(can_exchange(path, (0, 1, 1, 0)), False)
        self.assertIs(can_exchange(path, (0, 1, 2, 1)), False)
        self.assertIs(can_exchange(path, (0, 1, 1, 2)), False)
        self.assertIs(can_exchange(path, (1, 0, 2, 1)), False)
        self.assertIs(can_exchange((1, ()), (0, 0, 0, 0)), False)

    def test_great_webs(self):
        web = round_web(24, 1)
        self.assertIs(can_exchange(web, (0, 23, 11, 12)), True)
        self.assertIs(can_exchange(web, (23, 0, 11, 12)), True)
        self.assertIs(can_exchange(web, (0, 23, 24, 12)), False)
        self.assertIs(can_exchange((24, tuple(all_pairs(24))), (0, 1, 2, 3)), False)


class Exchanged(unittest.TestCase):
    def test_by_hand(self):
        self.assertEqual(exchanged(SQUARE, (0, 1, 2, 3)), (4, ((0, 3), (1, 2))))
        self.assertEqual(exchanged(SQUARE, (0, 1, 3, 2)), (4, ((0, 2), (1, 3))))
        self.assertEqual(exchanged(SQUARE, (3, 2, 0, 1)), (4, ((0, 2), (1, 3))))

    def test_every_exchange_of_small_webs(self):
        for web in some_webs():
            for four in itertools.permutations(range(web[0]), 4):
                if is_exchange(web, four):
                    behind = exchanged(web, four)
                    self.assertTrue(is_web(behind))
                    self.assertEqual(behind, done(web, four))
                    self.assertEqual(counted(behind), counted(web))
                    a, b, c, d = four
                    self.assertIs(can_exchange(behind, (a, d, c, b)), True)
                    self.assertEqual(exchanged(behind, (a, d, c, b)), web)

    def test_exchanges_of_a_great_web(self):
        web = round_web(24, 1, 2, 6)
        for four in exchanges_of(web)[::97]:
            behind = exchanged(web, four)
            self.assertTrue(is_web(behind))
            self.assertEqual(behind, done(web, four))

    def test_refuses_what_is_no_exchange(self):
        for web in some_webs():
            for four in itertools.product(range(web[0]), repeat=4):
                if not is_exchange(web, four):
                    with self.assertRaises(NoExchange):
                        exchanged(web, four)

    def test_refuses_numbers_that_are_no_places(self):
        for number in (-1, -2, -3, -4, 4, 5, 24, SIXTY, -SIXTY):
            for k in range(4):
                four = [0, 1, 2, 3]
                four[k] = number
                with self.subTest(four=four):
                    with self.assertRaises(NoExchange):
                        exchanged(SQUARE, tuple(four))

    def test_the_web_stays(self):
        web = (4, ((0, 1), (2, 3)))
        self.assertEqual(exchanged(web, (0, 1, 2, 3)), exchanged(web, (0, 1, 2, 3)))
        self.assertEqual(web, (4, ((0, 1), (2, 3))))


class ExchangesOf(unittest.TestCase):
    def test_by_hand(self):
        self.assertEqual(exchanges_of(SQUARE), [
            (0, 1, 2, 3), (0, 1, 3, 2), (1, 0, 2, 3), (1, 0, 3, 2),
            (2, 3, 0, 1), (2, 3, 1, 0), (3, 2, 0, 1), (3, 2, 1, 0),
        ])

    def test_just_those_of_small_webs_ascending(self):
        for web in some_webs() + list(great_webs())[:24:5]:
            fours = itertools.product(range(web[0]), repeat=4)
            expected = [four for four in fours if is_exchange(web, four)]
            told = exchanges_of(web)
            self.assertEqual(told, expected)
            self.assertIs(type(told), list)
            self.assertTrue(all(type(four) is tuple for four in told))

    def test_each_of_two_ties_stands_there_as_four(self):
        for web in list(all_webs(5))[::7]:
            told = exchanges_of(web)
            for a, b, c, d in told:
                for same in ((b, a, d, c), (c, d, a, b), (d, c, b, a)):
                    self.assertIn(same, told)

    def test_none(self):
        for web in ((1, ()), (24, ()), (24, tuple(all_pairs(24))), (24, tuple((0, end) for end in range(1, 24)))):
            self.assertEqual(exchanges_of(web), [])

    def test_a_web_of_24_places(self):
        web = round_web(24, 1, 5, 12)
        told = exchanges_of(web)
        self.assertEqual(told, sorted(set(told)))
        beside = [[end for end in range(24) if has(web, place, end)] for place in range(24)]
        expected = 0
        for a, c in itertools.permutations(range(24), 2):
            ends_of_a = [b for b in beside[a] if b != c and b not in beside[c]]
            ends_of_c = [d for d in beside[c] if d != a and d not in beside[a]]
            expected += len(ends_of_a) * len(ends_of_c)
        self.assertEqual(len(told), expected)
        self.assertTrue(all(is_exchange(web, four) for four in told))

    def test_a_list_of_its_own_at_each_call(self):
        first, second = exchanges_of(SQUARE), exchanges_of(SQUARE)
        self.assertIsNot(first, second)
        first.clear()
        self.assertEqual(len(second), 8)
        self.assertEqual(len(exchanges_of(SQUARE)), 8)
        self.assertIsNot(exchanges_of((1, ())), exchanges_of((1, ())))


class Led(unittest.TestCase):
    def assert_led(self, one, two):
        steps = led(one, two)
        self.assertIs(type(steps), list)
        self.assertLessEqual(len(steps), len(one[1]))
        web = one
        for four in steps:
            self.assertIs(type(four), tuple)
            self.assertTrue(is_exchange(web, four), (one, two, four))
            web = done(web, four)
        self.assertEqual(web, two)
        if one == two:
            self.assertEqual(steps, [])

    def test_from_each_small_web_to_each_other_of_its_tally(self):
        for places in range(1, 6):
            for webs in webs_by_tally(places).values():
                for one, two in itertools.product(webs, repeat=2):
                    self.assert_led(one, two)

    def test_from_each_web_of_six_places_to_some_others(self):
        for webs in webs_by_tally(6).values():
            for k, one in enumerate(webs):
                for far in (1, 5, 13):
                    self.assert_led(one, webs[(k + far) % len(webs)])

    def test_every_two_of_a_tally_of_six_places(self):
        held = webs_by_tally(6)
        for tally in ((3,) * 6, (2,) * 6, (3, 3, 2, 2, 2, 2), (4, 3, 3, 2, 2, 2)):
            for one, two in itertools.product(held[tally], repeat=2):
                self.assert_led(one, two)

    def test_great_webs(self):
        for web in great_webs():
            other = answered(counted(web))[1]
            self.assert_led(web, other)
            self.assert_led(other, web)
            self.assert_led(web, web)

    def test_webs_of_24_places_with_no_tie_in_common(self):
        rounds = [round_web(24, *far) for far in itertools.combinations(range(1, 12), 2)][::6]
        for one, two in itertools.product(rounds, repeat=2):
            self.assert_led(one, two)
        self.assert_led(round_web(24, 1, 3, 5, 7, 9), round_web(24, 2, 4, 6, 8, 10))
        self.assert_led(round_web(24, 2, 4, 6, 8, 10), round_web(24, 1, 3, 5, 7, 9))
        self.assert_led(round_web(24, 12), (24, tuple((end, end + 1) for end in range(0, 24, 2))))

    def test_two_rings_of_three_at_one_place(self):
        # The unlike ties alone make no ring of four here: each pair of the outer places is tied in both.
        common = [(1, 3), (1, 4), (2, 3), (2, 4)]
        one = (5, tuple(sorted(common + [(0, 1), (0, 2), (3, 4)])))
        two = (5, tuple(sorted(common + [(1, 2), (0, 3), (0, 4)])))
        self.assert_led(one, two)
        self.assert_led(two, one)

    def test_refuses_unlike_tallies(self):
        path, star, ring = (4, ((0, 1), (1, 2), (2, 3))), (4, ((0, 1), (0, 2), (0, 3))), round_web(4, 1)
        turned = (4, ((0, 2), (1, 2), (1, 3)))
        short = (3, ((0, 1), (1, 2)))
        for one, two in itertools.permutations((path, star, ring, short, (3, ()), (4, ()), (24, ())), 2):
            with self.subTest(one=one, two=two):
                with self.assertRaises(Unlike):
                    led(one, two)
        # The same numbers at other places are another tally too.
        for one, two in ((turned, (4, ((0, 1), (0, 2), (1, 3)))), ((3, ((0, 1),)), (3, ((1, 2),)))):
            for handed in ((one, two), (two, one)):
                with self.assertRaises(Unlike):
                    led(*handed)

    def test_the_same_asked_twice_and_each_list_its_own(self):
        one, two = round_web(8, 1, 2), round_web(8, 1, 3)
        first, second = led(one, two), led(one, two)
        self.assertEqual(first, second)
        self.assertIsNot(first, second)
        first.clear()
        self.assertEqual(led(one, two), second)
        self.assertEqual((one, two), (round_web(8, 1, 2), round_web(8, 1, 3)))
        self.assertIsNot(led(one, one), led(one, one))


if __name__ == "__main__":
    unittest.main()
