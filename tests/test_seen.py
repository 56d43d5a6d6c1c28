"""Points [15] and [16] and the interface of tallyweb/seen.py."""

import itertools
import unittest

from small import NOT_TALLIES, SIXTY, WITHOUT_WEB, all_pairs, counted, great_webs, is_web, webs_by_tally
from tallyweb.errors import BadTally, BadWeb, NoWeb
from tallyweb.exchanges import exchanged, exchanges_of
from tallyweb.laying import answered
from tallyweb.pairs import always, never
from tallyweb.seen import grown, growth, parted


def parts(web, group):
    """Whether all in the group are tied to each other, and no two of the others are."""
    for pair in all_pairs(web[0]):
        inside = len([place for place in pair if place in group])
        if (inside == 2 and pair not in web[1]) or (inside == 0 and pair in web[1]):
            return False
    return True


def is_parted(web):
    places = range(web[0])
    groups = itertools.chain.from_iterable(itertools.combinations(places, many) for many in range(web[0] + 1))
    return any(parts(web, group) for group in groups)


def is_parted_by_its_fours_and_fives(web):
    """A web is parted just where no four places of it are two ties apart or a ring, and no five a ring."""
    near = [[0] * web[0] for place in range(web[0])]
    for one, other in web[1]:
        near[one][other] = near[other][one] = 1
    for many, wrong in ((4, ([1] * 4, [2] * 4)), (5, ([2] * 5,))):
        for places in itertools.combinations(range(web[0]), many):
            if [sum(near[one][other] for other in places) for one in places] in wrong:
                return False
    return True


def first_group(tally):
    falling = sorted(range(len(tally)), key=lambda place: (-tally[place], place))
    m = max(m for m in range(1, len(tally) + 1) if tally[falling[m - 1]] >= m - 1)
    return sorted(falling[:m])


def parted_web(places, group, turn):
    """A web of such a group, with ties between it and the others by a rule that looks like none."""
    ties = [
        (one, other) for one, other in all_pairs(places)
        if (one in group and other in group)
        or ((one in group) != (other in group) and (one * one * turn + 7 * other + one * other) % 5 < 2)
    ]
    return (places, tuple(ties))


def great_parted_webs():
    for places in (9, 16, 24):
        for many in (0, 1, 2, places // 3, places // 2, places - 3, places - 1, places):
            for step in (1, 5, 7):
                group = sorted((place * step + 3) % places for place in range(many))
                yield parted_web(places, group, step + many)


class Parted(unittest.TestCase):
    def test_by_hand(self):
        self.assertEqual(parted([0]), [0])
        self.assertEqual(parted((0, 0, 0)), [0])
        self.assertEqual(parted([1, 1]), [0, 1])
        self.assertEqual(parted([1, 2, 1]), [0, 1])
        self.assertEqual(parted([1, 1, 3, 1]), [0, 2])
        self.assertEqual(parted([2, 2, 2]), [0, 1, 2])
        self.assertEqual(parted([2, 1, 1, 2]), [0, 3])
        self.assertEqual(parted([0, 2, 2, 2]), [1, 2, 3])
        self.assertIsNone(parted([1, 1, 1, 1]))
        self.assertIsNone(parted([2, 2, 2, 2]))
        self.assertIsNone(parted([2, 2, 2, 2, 2]))

    def test_held_against_all_webs_of_small_tallies(self):
        for places in range(1, 6):
            for tally, webs in webs_by_tally(places).items():
                told = parted(tally)
                self.assertEqual(parted(list(tally)), told)
                self.assertEqual({is_parted(web) for web in webs}, {told is not None}, tally)
                if told is not None:
                    self.assertIs(type(told), list)
                    self.assertEqual(told, first_group(tally))
                    self.assertTrue(all(parts(web, told) for web in webs), tally)

    def test_tallies_of_six_places(self):
        for tally, webs in webs_by_tally(6).items():
            told = parted(tally)
            self.assertEqual(told is not None, is_parted(webs[0]), tally)
            if told is not None:
                self.assertEqual(told, first_group(tally))
                self.assertTrue(all(parts(web, told) for web in webs), tally)

    def test_great_webs_made_parted_on_purpose(self):
        for web in great_parted_webs():
            tally = counted(web)
            told = parted(tally)
            self.assertEqual(told, first_group(tally))
            self.assertTrue(parts(web, told), web)
            self.assertTrue(parts(answered(tally)[1], told), web)

    def test_with_one_exchange_more(self):
        for web in great_parted_webs():
            for four in exchanges_of(web)[::211][:6]:
                beside = exchanged(web, four)
                self.assertTrue(parts(beside, parted(counted(beside))), (web, four))

    def test_great_webs_changed_a_little(self):
        seen = []
        webs = [web for web in great_parted_webs() if web[0] == 16]
        for web in webs:
            for pair in all_pairs(16)[::23]:
                ties = set(web[1]) ^ {pair}
                beside = (16, tuple(sorted(ties)))
                expected = is_parted_by_its_fours_and_fives(beside)
                self.assertEqual(parted(counted(beside)) is not None, expected, (web, pair))
                seen.append(expected)
        self.assertGreater(seen.count(True), 20)
        self.assertGreater(seen.count(False), 20)

    def test_great_webs(self):
        for web in list(great_webs())[::3]:
            self.assertEqual(parted(counted(web)) is not None, is_parted_by_its_fours_and_fives(web), web)

    def test_24_places(self):
        self.assertEqual(parted([23] * 24), list(range(24)))
        self.assertEqual(parted([0] * 24), [0])
        self.assertEqual(parted([23] + [1] * 23), [0, 1])
        self.assertEqual(parted([1] * 23 + [23]), [0, 23])
        self.assertEqual(parted([11] * 12 + [0] * 12), list(range(12)))
        self.assertEqual(parted([0] * 12 + [11] * 12), list(range(12, 24)))
        self.assertEqual(parted([12] * 12 + [1] * 12), list(range(12)))
        self.assertIsNone(parted([1] * 24))
        self.assertIsNone(parted([22] * 24))
        self.assertIsNone(parted([11] * 24))
        self.assertIsNone(parted([11] * 13 + [1] * 11))

    def test_lists_of_their_own_and_what_is_handed_in_stays(self):
        tally = [2, 1, 1, 2]
        first, second = parted(tally), parted(tally)
        first.append(9)
        self.assertEqual(second, [0, 3])
        self.assertEqual(parted(tally), [0, 3])
        self.assertEqual(tally, [2, 1, 1, 2])

    def test_refusals(self):
        for tally in NOT_TALLIES + ([-1] * 25,):
            with self.assertRaises(BadTally):
                parted(tally)
        for tally in WITHOUT_WEB:
            with self.subTest(tally=tally):
                with self.assertRaises(NoWeb):
                    parted(tally)


def made_by(steps):
    ties = []
    for k, (place, to_all) in enumerate(steps):
        if to_all:
            ties += [(min(place, one), max(place, one)) for one, put in steps[:k]]
    return (len(steps), tuple(sorted(ties)))


def great_growths():
    for places in (9, 17, 23, 24):
        for turn in range(1, 8):
            order = sorted(range(places), key=lambda place: (place * turn * 5 + 3) % 29)
            yield [(place, k > 0 and (k * k * turn + k // 2) % 3 < turn % 3) for k, place in enumerate(order)]
            yield [(place, k > 0) for k, place in enumerate(order)]
            yield [(place, k % 2 == 1) for k, place in enumerate(order)]
            yield [(place, False) for place in order]


class Growth(unittest.TestCase):
    def assert_grows(self, tally, web):
        for handed in (list(tally), tuple(tally)):
            steps = growth(handed)
            self.assertIs(type(steps), list)
            self.assertTrue(all(type(step) is tuple and len(step) == 2 for step in steps), steps)
            self.assertTrue(all(type(step[0]) is int and type(step[1]) is bool for step in steps), steps)
            self.assertEqual(sorted(step[0] for step in steps), list(range(len(tally))))
            self.assertIs(steps[0][1], False)
            self.assertEqual(made_by(steps), web)

    def test_by_hand(self):
        self.assertEqual(growth([0]), [(0, False)])
        self.assert_grows([0, 0], (2, ()))
        self.assert_grows([1, 1], (2, ((0, 1),)))
        self.assert_grows([1, 2, 1], (3, ((0, 1), (1, 2))))
        self.assert_grows([1, 0, 1], (3, ((0, 2),)))
        self.assertIsNone(growth([1, 1, 1, 1]))
        self.assertIsNone(growth([2, 2, 2, 2]))
        self.assertIsNone(growth([1, 2, 2, 1]))
        self.assertIsNone(growth((1, 2, 2, 1, 0)))

    def test_held_against_the_number_of_all_webs_of_small_tallies(self):
        for places in range(1, 7):
            for tally, webs in webs_by_tally(places).items():
                if len(webs) == 1:
                    self.assert_grows(tally, webs[0])
                else:
                    self.assertIsNone(growth(tally), tally)
                    self.assertIsNone(growth(list(tally)), tally)

    def test_great_lone_tallies(self):
        for steps in great_growths():
            web = made_by(steps)
            self.assert_grows(counted(web), web)

    def test_24_places(self):
        for tally, ties in (
            ([0] * 24, []), ([23] * 24, all_pairs(24)), ([23] + [1] * 23, [(0, end) for end in range(1, 24)]),
            ([1] * 23 + [23], [(end, 23) for end in range(23)]), ([0] * 22 + [1, 1], [(22, 23)]),
        ):
            self.assert_grows(tally, (24, tuple(ties)))
        for tally in ([1] * 24, [22] * 24, [2] * 24, [11] * 24, [0] * 20 + [1] * 4, [23] * 20 + [21] * 4):
            self.assertIsNone(growth(tally), tally)

    def test_just_where_there_is_no_exchange(self):
        for web in list(great_webs())[::2]:
            self.assertEqual(growth(counted(web)) is not None, exchanges_of(web) == [], web)
        for steps in list(great_growths())[::5]:
            web = made_by(steps)
            self.assertEqual(exchanges_of(web), [])
            for pair in all_pairs(web[0])[::31]:
                beside = (web[0], tuple(sorted(set(web[1]) ^ {pair})))
                self.assertEqual(growth(counted(beside)) is not None, exchanges_of(beside) == [], (web, pair))

    def test_just_where_each_pair_is_tied_in_all_webs_or_in_none(self):
        for web in list(great_webs())[::17] + [made_by(steps) for steps in list(great_growths())[::17]]:
            tally = counted(web)
            settled = sorted(always(tally) + never(tally)) == all_pairs(web[0])
            self.assertEqual(growth(tally) is not None, settled, tally)

    def test_lists_of_their_own_and_what_is_handed_in_stays(self):
        tally = [1, 2, 1]
        first, second = growth(tally), growth(tally)
        self.assertEqual(first, second)
        self.assertIsNot(first, second)
        first.clear()
        self.assertEqual(growth(tally), second)
        self.assertEqual(len(second), 3)
        self.assertEqual(tally, [1, 2, 1])

    def test_refusals(self):
        for tally in NOT_TALLIES + ([-1] * 25,):
            with self.assertRaises(BadTally):
                growth(tally)
        for tally in WITHOUT_WEB:
            with self.subTest(tally=tally):
                with self.assertRaises(NoWeb):
                    growth(tally)


class Grown(unittest.TestCase):
    def test_by_hand(self):
        self.assertEqual(grown([(0, False)]), (1, ()))
        self.assertEqual(grown([(0, False), (1, False)]), (2, ()))
        self.assertEqual(grown([(1, False), (0, True)]), (2, ((0, 1),)))
        self.assertEqual(grown([(2, False), (0, False), (1, True)]), (3, ((0, 1), (1, 2))))
        self.assertEqual(grown(((2, False), (0, True), (3, False), (1, True))), (4, ((0, 1), (0, 2), (1, 2), (1, 3))))

    def test_every_small_growth(self):
        for places in range(1, 5):
            for order in itertools.permutations(range(places)):
                for to_all in itertools.product((False, True), repeat=places - 1):
                    steps = list(zip(order, (False,) + to_all))
                    for handed in (steps, tuple(steps)):
                        web = grown(handed)
                        self.assertTrue(is_web(web))
                        self.assertEqual(web, made_by(steps))

    def test_great_growths(self):
        for steps in great_growths():
            web = grown(steps)
            self.assertTrue(is_web(web))
            self.assertEqual(web, made_by(steps))
            self.assertEqual(grown(growth(counted(web))), web)
        for place in range(24):
            star = [(end, False) for end in range(24) if end != place] + [(place, True)]
            self.assertEqual(len(grown(star)[1]), 23)

    def test_refuses_none_and_more_than_24(self):
        for steps in ([], ()):
            with self.assertRaises(BadWeb):
                grown(steps)
        self.assertEqual(grown([(place, False) for place in range(24)]), (24, ()))
        for many in (25, 26, 100):
            for to_all in (False, True):
                steps = [(place, to_all and place > 0) for place in range(many)]
                for handed in (steps, tuple(steps)):
                    with self.assertRaises(BadWeb):
                        grown(handed)

    def test_refuses_places_that_do_not_stand_once_each(self):
        for places in (
            [1], [-1], [SIXTY], [-SIXTY], [0, 0], [1, 1], [1, 2], [0, 2], [-1, 0], [0, -1], [0, 1, 1], [0, 1, 3],
            [2, 1, 2], [0, 1, SIXTY], [-SIXTY, 1, 2], [3, 2, 1], [0, 1, 2, 2], list(range(1, 25)), [0] * 24,
            list(range(23)) + [24], list(range(23)) + [22], list(range(23)) + [-1],
        ):
            for to_all in (False, True):
                steps = [(place, to_all and k > 0) for k, place in enumerate(places)]
                with self.subTest(steps=steps):
                    with self.assertRaises(BadWeb):
                        grown(steps)
                    with self.assertRaises(BadWeb):
                        grown(tuple(steps))

    def test_refuses_a_first_pair_with_true(self):
        for steps in (
            [(0, True)], [(0, True), (1, False)], [(1, True), (0, True)], [(place, True) for place in range(24)],
            ((2, True), (1, False), (0, False)),
        ):
            with self.subTest(steps=steps):
                with self.assertRaises(BadWeb):
                    grown(steps)

    def test_what_is_handed_in_stays(self):
        steps = [(1, False), (0, True), (2, True)]
        self.assertEqual(grown(steps), grown(steps))
        self.assertEqual(steps, [(1, False), (0, True), (2, True)])


if __name__ == "__main__":
    unittest.main()
