"""Point [6] and the interface of tallyweb/tallies.py."""

import itertools
import unittest

from small import NOT_TALLIES, SIXTY
from tallyweb.errors import BadTally, NoPlace
from tallyweb.tallies import moved, order_of


class OrderOf(unittest.TestCase):
    def test_falling_numbers(self):
        self.assertEqual(order_of([1, 3, 2]), [1, 2, 0])
        self.assertEqual(order_of((5, 4, 3, 2, 1)), [0, 1, 2, 3, 4])
        self.assertEqual(order_of([1, 2, 3, 4, 5]), [4, 3, 2, 1, 0])

    def test_of_equal_numbers_the_lesser_place_first(self):
        self.assertEqual(order_of([2, 3, 2, 3, 2]), [1, 3, 0, 2, 4])
        self.assertEqual(order_of([0] * 24), list(range(24)))
        self.assertEqual(order_of([-1] * 24), list(range(24)))

    def test_numbers_below_nought(self):
        self.assertEqual(order_of([-1, 0, -2, 1, -1]), [3, 1, 0, 4, 2])

    def test_numbers_of_sixty_figures(self):
        self.assertEqual(order_of([SIXTY - 1, -SIXTY, SIXTY, 0, 1 - SIXTY]), [2, 0, 3, 4, 1])

    def test_every_small_tally_as_list_and_as_tuple(self):
        for places in range(1, 5):
            for tally in itertools.product((-1, 0, 1, 2), repeat=places):
                order = order_of(tally)
                self.assertEqual(sorted(order), list(range(places)))
                for ahead, behind in zip(order, order[1:]):
                    self.assertTrue(
                        tally[ahead] > tally[behind] or (tally[ahead] == tally[behind] and ahead < behind)
                    )
                self.assertEqual(order_of(list(tally)), order)
                self.assertIs(type(order), list)

    def test_1_and_24_places(self):
        self.assertEqual(order_of([-7]), [0])
        self.assertEqual(order_of((7,)), [0])
        self.assertEqual(order_of(tuple(range(24))), list(range(23, -1, -1)))

    def test_refuses_no_number_and_more_than_24(self):
        for tally in NOT_TALLIES:
            with self.subTest(tally=tally):
                with self.assertRaises(BadTally):
                    order_of(tally)

    def test_what_is_handed_in_stays_and_each_list_is_its_own(self):
        tally = [1, 3, 2]
        first, second = order_of(tally), order_of(tally)
        self.assertIsNot(first, second)
        first.reverse()
        self.assertEqual(tally, [1, 3, 2])
        self.assertEqual(second, [1, 2, 0])
        tally[0] = 9
        self.assertEqual(second, [1, 2, 0])


class Moved(unittest.TestCase):
    def test_changed_at_that_place_alone(self):
        for handed in ([4, -2, 0, 7], (4, -2, 0, 7)):
            for place in range(4):
                for more in (-9, -1, 0, 1, 9, SIXTY, -SIXTY):
                    with self.subTest(handed=handed, place=place, more=more):
                        expected = [4, -2, 0, 7]
                        expected[place] += more
                        told = moved(handed, place, more)
                        self.assertEqual(told, expected)
                        self.assertIs(type(told), list)

    def test_numbers_of_sixty_figures(self):
        self.assertEqual(moved([SIXTY, -SIXTY], 0, SIXTY), [2 * SIXTY, -SIXTY])
        self.assertEqual(moved([SIXTY, -SIXTY], 1, -1), [SIXTY, -SIXTY - 1])

    def test_1_and_24_places(self):
        self.assertEqual(moved([5], 0, -6), [-1])
        self.assertEqual(moved((0,) * 24, 23, 2), [0] * 23 + [2])
        self.assertEqual(moved([0] * 24, 0, 2), [2] + [0] * 23)

    def test_refuses_no_number_and_more_than_24_ahead_of_all_else(self):
        for tally in NOT_TALLIES:
            for place in (0, 1, 24, -1, len(tally), SIXTY, -SIXTY):
                with self.subTest(tally=tally, place=place):
                    with self.assertRaises(BadTally):
                        moved(tally, place, 1)

    def test_refuses_what_is_no_place(self):
        for tally in ([0, 1, 2], (0, 1, 2)):
            for place in (-1, -3, -4, 3, 4, 24, 1000, SIXTY, -SIXTY):
                with self.subTest(tally=tally, place=place):
                    with self.assertRaises(NoPlace):
                        moved(tally, place, 1)
                    with self.assertRaises(NoPlace):
                        moved(tally, place, 0)
        for tally, place in (([0], 1), ([0], -1), ([0] * 24, 24), ([0] * 24, -1)):
            with self.subTest(tally=tally, place=place):
                with self.assertRaises(NoPlace):
                    moved(tally, place, 1)

    def test_what_is_handed_in_stays_and_each_list_is_its_own(self):
        tally = [4, 5, 6]
        for more in (0, 3):
            first, second = moved(tally, 1, more), moved(tally, 1, more)
            self.assertIsNot(first, tally)
            self.assertIsNot(first, second)
            first[2] = 99
            self.assertEqual(tally, [4, 5, 6])
            self.assertEqual(second, [4, 5 + more, 6])
        told = moved(tally, 0, 1)
        tally.append(7)
        self.assertEqual(told, [5, 5, 6])


if __name__ == "__main__":
    unittest.main()
