"""Points [13] and [14] and the interface of tallyweb/pieces.py."""

import itertools
import unittest

from small import (
    NOT_TALLIES, SIXTY, WITHOUT_WEB, all_pairs, all_webs, counted, great_webs, is_web, round_web, walked_pieces,
    webs_by_tally,
)
from tallyweb.errors import BadTally, NoPlace, NoWeb
from tallyweb.pieces import fewest_pieces, in_ring, pieces_of, tree_of

PATH = (24, tuple((place, place + 1) for place in range(23)))
STAR = (24, tuple((0, place) for place in range(1, 24)))
EIGHT_RINGS = (24, tuple(sorted(
    tie for place in range(8) for tie in ((place, place + 8), (place, place + 16), (place + 8, place + 16))
)))
TWO_RINGS_AND_A_BRIDGE = (7, ((0, 1), (0, 2), (1, 2), (2, 3), (3, 4), (3, 5), (4, 5)))


def without(web, tie):
    return (web[0], tuple(one for one in web[1] if one != tie))


class PiecesOf(unittest.TestCase):
    def test_by_hand(self):
        self.assertEqual(pieces_of((1, ())), [[0]])
        self.assertEqual(pieces_of((3, ())), [[0], [1], [2]])
        self.assertEqual(pieces_of((2, ((0, 1),))), [[0, 1]])
        self.assertEqual(pieces_of((5, ((0, 3), (1, 4)))), [[0, 3], [1, 4], [2]])
        self.assertEqual(pieces_of((6, ((0, 5), (1, 2), (1, 3), (2, 3), (4, 5)))), [[0, 4, 5], [1, 2, 3]])
        self.assertEqual(pieces_of(TWO_RINGS_AND_A_BRIDGE), [[0, 1, 2, 3, 4, 5], [6]])

    def test_held_against_walks_along_the_ties_of_small_webs(self):
        for places in range(1, 6):
            for web in all_webs(places):
                self.assertEqual(pieces_of(web), walked_pieces(web), web)
        for web in list(all_webs(6))[::11]:
            self.assertEqual(pieces_of(web), walked_pieces(web), web)

    def test_held_against_walks_along_the_ties_of_great_webs(self):
        for web in great_webs():
            self.assertEqual(pieces_of(web), walked_pieces(web), web)
        for far in itertools.combinations(range(1, 13), 2):
            web = round_web(24, *far)
            self.assertEqual(pieces_of(web), walked_pieces(web), web)
        for far in range(1, 13):
            for places in (20, 23, 24):
                web = round_web(places, far)
                self.assertEqual(pieces_of(web), walked_pieces(web), web)

    def test_24_places(self):
        whole = [list(range(24))]
        self.assertEqual(pieces_of((24, ())), [[place] for place in range(24)])
        self.assertEqual(pieces_of((24, tuple(all_pairs(24)))), whole)
        self.assertEqual(pieces_of(PATH), whole)
        self.assertEqual(pieces_of(STAR), whole)
        self.assertEqual(pieces_of(EIGHT_RINGS), [[place, place + 8, place + 16] for place in range(8)])
        self.assertEqual(pieces_of(without(PATH, (11, 12))), [list(range(12)), list(range(12, 24))])
        self.assertEqual(pieces_of(without(STAR, (0, 1))), [[0] + list(range(2, 24)), [1]])
        # A piece that goes to and fro over all places, so that each walk along it is a long one.
        order = [0, 23, 1, 22, 2, 21, 3, 20, 4, 19, 5, 18, 6, 17, 7, 16, 8, 15, 9, 14, 10, 13, 11, 12]
        ties = tuple(sorted(tuple(sorted(tie)) for tie in zip(order, order[1:])))
        self.assertEqual(pieces_of((24, ties)), whole)

    def test_lists_of_their_own(self):
        web = (5, ((0, 3), (1, 4)))
        first, second = pieces_of(web), pieces_of(web)
        self.assertIs(type(first), list)
        self.assertTrue(all(type(piece) is list for piece in first))
        for piece in first:
            piece.append(99)
        first.append([7])
        self.assertEqual(second, [[0, 3], [1, 4], [2]])
        self.assertEqual(pieces_of(web), second)
        self.assertEqual(len({id(part) for part in [first, second] + first + second}), 2 + 4 + 3)
        self.assertEqual(web, (5, ((0, 3), (1, 4))))


class InRing(unittest.TestCase):
    def test_by_hand(self):
        ring = ((0, 1), (0, 2), (1, 2), (3, 4), (3, 5), (4, 5))
        for one, other in itertools.product(range(7), repeat=2):
            expected = (min(one, other), max(one, other)) in ring
            self.assertIs(in_ring(TWO_RINGS_AND_A_BRIDGE, one, other), expected, (one, other))

    def test_held_against_walks_along_the_ties(self):
        webs = [web for places in range(1, 6) for web in all_webs(places)] + list(all_webs(6))[::41]
        for web in webs:
            for one, other in itertools.product(range(web[0]), repeat=2):
                tie = (min(one, other), max(one, other))
                expected = tie in web[1] and any(
                    one in piece and other in piece for piece in walked_pieces(without(web, tie))
                )
                self.assertIs(in_ring(web, one, other), expected, (web, one, other))

    def test_24_places(self):
        whole_ring = round_web(24, 1)
        for one, other in itertools.product(range(24), repeat=2):
            tied = (min(one, other), max(one, other)) in whole_ring[1]
            self.assertIs(in_ring(whole_ring, one, other), tied)
            self.assertIs(in_ring(PATH, one, other), False)
            self.assertIs(in_ring(STAR, one, other), False)
            self.assertIs(in_ring((24, ()), one, other), False)
            self.assertIs(in_ring((24, tuple(all_pairs(24))), one, other), one != other)
            self.assertIs(in_ring(EIGHT_RINGS, one, other), one != other and one % 8 == other % 8)

    def test_refuses_what_is_no_place(self):
        ring = (3, ((0, 1), (0, 2), (1, 2)))
        for web in (ring, (3, ()), (3, ((0, 1),))):
            for number in (-1, -2, -3, -4, 3, 4, 24, SIXTY, -SIXTY):
                for one, other in ((0, number), (number, 0), (2, number), (number, 2), (number, number)):
                    with self.subTest(web=web, one=one, other=other):
                        with self.assertRaises(NoPlace):
                            in_ring(web, one, other)
        for one, other in ((0, 24), (24, 0), (23, -1), (-1, 23)):
            with self.assertRaises(NoPlace):
                in_ring(round_web(24, 1), one, other)
        for one, other in ((0, 1), (1, 0), (-1, 0)):
            with self.assertRaises(NoPlace):
                in_ring((1, ()), one, other)

    def test_the_web_stays(self):
        web = (3, ((0, 1), (0, 2), (1, 2)))
        for asked in range(2):
            self.assertIs(in_ring(web, 2, 0), True)
        self.assertEqual(web, (3, ((0, 1), (0, 2), (1, 2))))


def fewest_by_the_words(tally):
    noughts = len([number for number in tally if number == 0])
    others = len(tally) - noughts
    ties = sum(tally) // 2
    if others == 0:
        return noughts
    return noughts + (others - ties if ties < others - 1 else 1)


class FewestPieces(unittest.TestCase):
    def assert_fewest(self, tally, fewest):
        for handed in (list(tally), tuple(tally)):
            told = fewest_pieces(handed)
            self.assertIs(type(told), tuple)
            self.assertEqual(len(told), 2)
            self.assertIs(type(told[0]), int)
            self.assertEqual(told[0], fewest, tally)
            self.assertTrue(is_web(told[1]), told)
            self.assertEqual(counted(told[1]), tuple(tally))
            self.assertEqual(len(walked_pieces(told[1])), fewest, told)

    def test_by_hand(self):
        self.assertEqual(fewest_pieces([0]), (1, (1, ())))
        self.assertEqual(fewest_pieces([0, 0, 0]), (3, (3, ())))
        self.assertEqual(fewest_pieces([1, 0, 1]), (2, (3, ((0, 2),))))
        self.assertEqual(fewest_pieces([1, 2, 1]), (1, (3, ((0, 1), (1, 2)))))
        self.assert_fewest([1, 1, 1, 1], 2)
        self.assert_fewest([2] * 6, 1)
        self.assert_fewest([2, 2, 2, 1, 1], 1)
        self.assert_fewest([2, 2, 2, 1, 1, 1, 1], 2)
        self.assert_fewest([2, 2, 2, 1, 1, 1, 1, 0], 3)

    def test_held_against_all_webs_of_small_tallies(self):
        for places in range(1, 7):
            for tally, webs in webs_by_tally(places).items():
                fewest = min(len(walked_pieces(web)) for web in webs)
                self.assertEqual(fewest, fewest_by_the_words(tally))
                self.assert_fewest(tally, fewest)

    def test_great_tallies(self):
        for web in great_webs():
            tally = counted(web)
            self.assert_fewest(tally, fewest_by_the_words(tally))

    def test_great_tallies_with_few_ties_and_with_noughts(self):
        for tally, fewest in (
            ([1] * 24, 12), ([1] * 20 + [0] * 4, 14), ([0, 1] * 12, 18), ([2] * 24, 1), ([2] * 23, 1),
            ([2] * 12 + [1] * 12, 6), ([1] * 12 + [2] * 12, 6), ([2] * 22 + [1] * 2, 1), ([2] * 21 + [1, 0, 1], 2),
            ([3] + [1] * 21 + [0, 0], 12), ([23] + [1] * 23, 1), ([0] * 24, 24), ([0] * 22 + [1, 1], 23),
            ([1] * 23 + [3], 11), ([6, 6, 6] + [1] * 18 + [0] * 3, 6), ([5, 4] + [1] * 21 + [0], 9),
        ):
            self.assert_fewest(tally, fewest)
            self.assert_fewest(tally[::-1], fewest)
            self.assert_fewest(tally[::2] + tally[1::2], fewest)

    def test_great_tallies_with_many_ties(self):
        for tally in (
            [23] * 24, [22] * 24, [11] * 24, [3] * 24, [20] * 21 + [1, 1, 0], [1, 1] + [21] * 22, [2, 2, 2] + [20] * 21,
            [1, 1, 1, 1] + [19] * 20, [2] * 3 + [1] * 2 + [18] * 19, [7] * 8 + [1] * 16, [1] * 16 + [7] * 8,
        ):
            self.assert_fewest(tally, fewest_by_the_words(tally))

    def test_rings_in_several_pieces(self):
        # Each of these tallies has webs of several full groups of places, in which every tie lies in a ring.
        for groups in itertools.combinations_with_replacement(range(2, 13), 3):
            if sum(groups) <= 24:
                tally = [many - 1 for many in groups for place in range(many)]
                for turned in (tally, tally[::-1]):
                    self.assert_fewest(turned, fewest_by_the_words(turned))
        self.assert_fewest([2] * 24, 1)
        self.assert_fewest([3] * 24, 1)
        self.assert_fewest([5] * 24, 1)
        self.assert_fewest([2] * 18 + [1] * 6, 3)
        self.assert_fewest([3] * 8 + [1] * 16, 4)
        self.assert_fewest([2] * 9 + [1] * 14 + [0], 8)

    def test_no_web(self):
        for tally in WITHOUT_WEB:
            with self.subTest(tally=tally):
                with self.assertRaises(NoWeb):
                    fewest_pieces(tally)

    def test_no_tally(self):
        for tally in NOT_TALLIES + ([-1] * 25, (1,) * 25):
            with self.assertRaises(BadTally):
                fewest_pieces(tally)

    def test_the_same_asked_twice_and_what_is_handed_in_stays(self):
        tally = [2] * 9 + [1] * 3 + [0, 1]
        self.assertEqual(fewest_pieces(tally), fewest_pieces(tally))
        self.assertEqual(tally, [2] * 9 + [1] * 3 + [0, 1])


class TreeOf(unittest.TestCase):
    def assert_tree(self, tally):
        for handed in (list(tally), tuple(tally)):
            web = tree_of(handed)
            self.assertTrue(is_web(web), (tally, web))
            self.assertEqual(counted(web), tuple(tally))
            self.assertEqual(len(web[1]), len(tally) - 1)
            self.assertEqual(len(walked_pieces(web)), 1)

    def test_by_hand(self):
        self.assertEqual(tree_of([1, 1]), (2, ((0, 1),)))
        self.assertEqual(tree_of((1, 2, 1)), (3, ((0, 1), (1, 2))))
        self.assertEqual(tree_of([1, 1, 3, 1]), (4, ((0, 2), (1, 2), (2, 3))))
        self.assertIsNone(tree_of([1, 1, 1, 1]))
        self.assertIsNone(tree_of([2, 2, 2]))
        self.assertIsNone(tree_of([0, 0]))

    def test_one_place(self):
        # One place without ties is a web in one piece, and its ties are one fewer than its places.
        self.assertEqual(tree_of([0]), (1, ()))
        self.assertEqual(tree_of((0,)), (1, ()))
        for number in (1, 2, -1, -2, SIXTY, -SIXTY):
            self.assertIsNone(tree_of([number]))

    def test_held_against_all_webs_of_small_tallies(self):
        for places in range(1, 6):
            held = webs_by_tally(places)
            for tally in itertools.product(range(-1, places + 1), repeat=places):
                webs = held.get(tally, [])
                trees = [web for web in webs if len(web[1]) == places - 1 and len(walked_pieces(web)) == 1]
                if trees:
                    self.assert_tree(tally)
                    self.assertIn(tree_of(tally), trees)
                else:
                    self.assertIsNone(tree_of(tally), tally)

    def test_great_trees(self):
        self.assert_tree([23] + [1] * 23)
        self.assert_tree([1] * 23 + [23])
        self.assert_tree([1] + [2] * 22 + [1])
        self.assert_tree([2] * 22 + [1, 1])
        self.assert_tree([12] + [1] * 11 + [12] + [1] * 11)
        for places in (7, 16, 23, 24):
            for turn in range(1, 9):
                tally = [1] * places
                for step in range(places - 2):
                    tally[(step * step * turn + 3 * step + turn) % places] += 1
                self.assert_tree(tally)

    def test_great_tallies_without_a_tree(self):
        for tally in (
            [1] * 24, [2] * 24, [0] * 24, [23] * 24, [1] + [2] * 21 + [1, 0], [3] + [2] * 21 + [1, 0],
            [2] * 21 + [3, 1, 0], [3] * 2 + [2] * 19 + [1, 1, 0], [23] + [1] * 22 + [3], [24] + [1] * 22 + [0],
            [0] + [2] * 23, [3] + [2] * 22 + [1],
        ):
            self.assertIsNone(tree_of(tally), tally)

    def test_no_web(self):
        for tally in WITHOUT_WEB + ([3, 3, 0, 0], [4, 1, 1, 0], [3, -1], (6, 0, 0, 0), [SIXTY, 2 - SIXTY]):
            self.assertIsNone(tree_of(tally), tally)

    def test_no_tally(self):
        for tally in NOT_TALLIES + ([1] + [2] * 23 + [1], [-1] * 25):
            with self.assertRaises(BadTally):
                tree_of(tally)

    def test_the_same_asked_twice_and_what_is_handed_in_stays(self):
        tally = [2, 1, 3, 1, 2, 1]
        self.assertEqual(tree_of(tally), tree_of(tally))
        self.assertEqual(tally, [2, 1, 3, 1, 2, 1])


if __name__ == "__main__":
    unittest.main()
