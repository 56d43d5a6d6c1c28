"""Points [23] and [24] and the interface of tallyweb/least.py."""

import itertools
import unittest

from small import (
    NOT_TALLIES, SIXTY, all_pairs, all_webs, counted, great_webs, is_web, room_by_the_words, round_web, webs_by_tally,
)
from tallyweb.errors import BadTally, NoWeb
from tallyweb.least import least_off, least_on, off_shows
from tallyweb.walls import wall_of

FIFTY = 10 ** 50 - 1
NUMBERS = (-SIXTY, -2, -1, 24, 25, SIXTY)
GREAT = (
    [SIXTY] * 24,
    [SIXTY] * 23 + [0],
    [SIXTY, 1] * 12,
    [SIXTY - place for place in range(24)],
    [SIXTY] * 3 + [FIFTY] * 5 + list(range(16)),
    [FIFTY, 0, 23, FIFTY - 1, 5, 5, 5, 1, 1, 12, 24, 25, 23, 22, 22, 7],
    [24] * 24,
    [23] * 23 + [22],
    [1] * 23,
    [23, 23] + [1] * 22,
    [12] * 12 + [1] * 12,
    list(range(24)),
    list(range(1, 25)),
    [place % 7 * 5 for place in range(24)],
    [40] * 5 + [3] * 19,
    [2 * 10 ** 59, 10 ** 59, 3, 2, 2, 1],
)
NO_WEBS = ([-1], [0, -1], (3, -2, 3), [SIXTY, -SIXTY], [-SIXTY] * 24, (1,) * 23 + (-1,), [-2, 1, 1])


def lacking(tally, web):
    """How much the web lacks in all, or None where some place has more ties than told."""
    ties = counted(web)
    if len(ties) != len(tally) or any(many > number for many, number in zip(ties, tally)):
        return None
    return sum(tally) - sum(ties)


def most_of_a_web(places):
    """For each tally whose numbers are less than the places the most ends of ties under it, of all webs."""
    held = webs_by_tally(places)
    most = {}
    for tally in itertools.product(range(places), repeat=places):
        if tally in held:
            most[tally] = sum(tally)
        else:
            fewer = [tally[:k] + (tally[k] - 1,) + tally[k + 1:] for k in range(places) if tally[k] > 0]
            most[tally] = max(most[one] for one in fewer)
    return most


def off_by_all_webs(most, tally):
    # Beyond one less than the places no web has a tie more.
    return sum(tally) - most[tuple(min(number, len(tally) - 1) for number in tally)]


def off_by_the_words(tally):
    much = max(-room_by_the_words(tally, r) for r in range(len(tally) + 1))
    return much if much % 2 == sum(tally) % 2 else much + 1


def shows_by_the_words(tally, told):
    much, web, r = told
    if not is_web(web) or lacking(tally, web) != much or r not in range(len(tally) + 1):
        return False
    want = -room_by_the_words(tally, r)
    return want == much if want % 2 == sum(tally) % 2 else want == much - 1


class Held(unittest.TestCase):
    def assert_off(self, tally, much):
        """That least_off tells so much, and a web and an r as it should."""
        told = least_off(tally)
        self.assertIs(type(told), tuple)
        self.assertEqual([type(part) for part in told], [int, tuple, int])
        self.assertEqual(told[0], much, tally)
        self.assertTrue(is_web(told[1]), told)
        self.assertEqual(lacking(tally, told[1]), much, told)
        rooms = [room_by_the_words(tally, r) for r in range(len(tally) + 1)]
        self.assertEqual(told[2], rooms.index(min(rooms)), tally)
        self.assertIs(off_shows(tally, told), True)
        return told


class LeastOff(Held):
    def test_by_hand(self):
        self.assertEqual(least_off([0]), (0, (1, ()), 0))
        self.assertEqual(least_off([1]), (1, (1, ()), 1))
        self.assertEqual(least_off([5]), (5, (1, ()), 1))
        self.assertEqual(least_off([1, 1]), (0, (2, ((0, 1),)), 0))
        self.assertEqual(least_off((2, 2)), (2, (2, ((0, 1),)), 2))
        self.assertEqual(least_off([3, 1]), (2, (2, ((0, 1),)), 1))
        self.assertEqual(least_off([7, 0]), (7, (2, ()), 1))
        # Two of the three hang together, and the third one lacks its tie: no room wants it, the sum alone does.
        self.assertEqual(self.assert_off([1, 1, 1], 1)[2], 0)
        self.assertEqual(self.assert_off([3, 3, 1, 1], 2)[2], 2)
        self.assertEqual(self.assert_off([5, 5, 1], 7)[2], 2)
        self.assertEqual(least_off([3, 3, 3]), (3, (3, ((0, 1), (0, 2), (1, 2))), 3))
        # One place with more ties than there are others to take them.
        self.assertEqual(self.assert_off([3, 1, 1, 1, 0, 0], 0)[2], 0)
        self.assertEqual(self.assert_off([4, 1, 1, 1, 0, 0], 1)[2], 1)
        self.assertEqual(self.assert_off([5, 1, 1, 1, 0, 0], 2)[2], 1)
        self.assertEqual(self.assert_off([5, 1, 1, 1, 1, 1, 1, 1], 0)[2], 0)

    def test_one_more_than_the_want(self):
        # At 1 there are three others to be tied to, less 4, so that 1 is wanting; but the sum is even.
        self.assertEqual(self.assert_off([4, 2, 2, 2], 2)[2], 1)
        self.assertEqual(self.assert_off([2, 2, 2, 5], 3)[2], 1)
        self.assertEqual(self.assert_off([2, 0, 4, 2, 2], 2)[2], 1)
        # At 2 there are 2 and three times 2, less 12.
        self.assertEqual(self.assert_off([3, 6, 3, 6, 3], 5)[2], 2)
        self.assertEqual(self.assert_off([3, 6, 3, 4, 3], 3)[2], 1)
        self.assertEqual(self.assert_off([7, 7, 7, 4, 4, 4], 7)[2], 3)
        # Here as much as is wanting will do.
        self.assertEqual(self.assert_off([4, 1, 1, 4, 1, 1], 2)[2], 2)
        self.assertEqual(self.assert_off([4, 4, 4, 1, 1], 4)[2], 3)
        for tally in itertools.product(range(6), repeat=4):
            told = least_off(tally)
            want = -room_by_the_words(tally, told[2])
            self.assertEqual(told[0] - want, (want + sum(tally)) % 2)

    def test_held_against_all_webs_of_small_tallies(self):
        for places, top in ((1, 6), (2, 7), (3, 6), (4, 6)):
            most = most_of_a_web(places)
            for tally in itertools.product(range(top), repeat=places):
                self.assert_off(tally, off_by_all_webs(most, tally))
                self.assert_off(list(tally), off_by_all_webs(most, tally))

    def test_held_against_all_webs_of_five_and_six_places(self):
        most = most_of_a_web(5)
        for tally in itertools.combinations_with_replacement(range(7), 5):
            self.assert_off(tally, off_by_all_webs(most, tally))
        for tally in list(itertools.product(range(7), repeat=5))[::17]:
            self.assert_off(tally, off_by_all_webs(most, tally))
        most = most_of_a_web(6)
        for tally in list(itertools.product(range(8), repeat=6))[::311]:
            self.assert_off(tally, off_by_all_webs(most, tally))

    def test_held_against_the_webs_themselves(self):
        for tally in itertools.product(range(5), repeat=4):
            much = min(lacking(tally, web) for web in all_webs(4) if lacking(tally, web) is not None)
            self.assert_off(tally, much)

    def test_nought_of_a_tally_that_a_web_has(self):
        for places in range(1, 6):
            for tally in webs_by_tally(places):
                self.assertEqual(self.assert_off(tally, 0)[2], 0)
        for web in great_webs():
            told = self.assert_off(list(counted(web)), 0)
            self.assertEqual(counted(told[1]), counted(web))
            self.assertEqual(told[2], 0)

    def test_nought_just_where_there_is_a_web(self):
        for tally in itertools.product(range(5), repeat=5):
            self.assertEqual(least_off(tally)[0] == 0, wall_of(tally) is None, tally)

    def test_great_tallies(self):
        # The web that is told shows that so much will do, and the room at r that less will not.
        for tally in GREAT:
            self.assert_off(tally, off_by_the_words(tally))
            self.assert_off(tuple(tally), off_by_the_words(tally))
            self.assert_off(list(reversed(tally)), off_by_the_words(tally))

    def test_great_tallies_by_hand(self):
        whole = (24, tuple(all_pairs(24)))
        self.assertEqual(least_off([SIXTY] * 24), (24 * (SIXTY - 23), whole, 24))
        self.assertEqual(least_off([24] * 24), (24, whole, 24))
        self.assertEqual(least_off([23] * 24), (0, whole, 0))
        star = (24, tuple((0, place) for place in range(1, 24)))
        self.assertEqual(least_off([SIXTY] + [1] * 23), (SIXTY - 23, star, 1))
        self.assertEqual(least_off([SIXTY] + [0] * 23), (SIXTY, (24, ()), 1))
        self.assertEqual(least_off([SIXTY]), (SIXTY, (1, ()), 1))
        self.assertEqual(least_off((SIXTY, SIXTY)), (2 * SIXTY - 2, (2, ((0, 1),)), 2))
        self.assertEqual(least_off((FIFTY, 1)), (FIFTY - 1, (2, ((0, 1),)), 1))
        self.assert_off([SIXTY, SIXTY - 1, 1, 0], 2 * SIXTY - 1 + 1 - 4)
        self.assert_off([1] * 23, 1)
        self.assert_off([1] * 24, 0)

    def test_tallies_of_great_webs_changed_a_little(self):
        for web in list(great_webs())[::3]:
            for place in (0, web[0] // 2, web[0] - 1):
                for more in (1, 2, 5, web[0], SIXTY):
                    tally = list(counted(web))
                    tally[place] += more
                    self.assert_off(tally, off_by_the_words(tally))
                    self.assertLessEqual(least_off(tally)[0], more)

    def test_the_same_asked_twice_and_what_is_handed_in_stays(self):
        for tally in ([3, 3, 1, 1], [SIXTY, 1, 0], [9] * 24):
            kept = list(tally)
            self.assertEqual(least_off(tally), least_off(tally))
            self.assertEqual(least_off(tuple(tally)), least_off(tally))
            self.assertEqual(tally, kept)

    def test_refusals(self):
        for tally in NOT_TALLIES:
            with self.assertRaises(BadTally):
                least_off(tally)
        for tally in ([-1] * 25, (-SIXTY,) * 30):
            with self.assertRaises(BadTally):
                least_off(tally)
        for tally in NO_WEBS:
            with self.subTest(tally=tally), self.assertRaises(NoWeb):
                least_off(tally)


class OffShows(Held):
    def test_everything_that_could_be_told_of_small_tallies(self):
        for places in range(1, 4):
            most = most_of_a_web(places)
            webs = [web for beside in range(1, 5) for web in all_webs(beside)][:20]
            for tally in itertools.product(range(places + 2), repeat=places):
                least = off_by_all_webs(most, tally)
                for web in webs:
                    for much, r in itertools.product(range(-2, sum(tally) + 2), range(-2, places + 3)):
                        told = (much, web, r)
                        shown = off_shows(tally, told)
                        self.assertIs(shown, shows_by_the_words(tally, told), (tally, told))
                        self.assertTrue(not shown or much == least)

    def test_webs_of_four_places(self):
        for tally in list(itertools.product(range(6), repeat=4))[::5]:
            least = least_off(tally)
            for web in list(all_webs(4))[::3] + [least[1]]:
                for much, r in itertools.product((least[0] - 1, least[0], least[0] + 1), range(-1, 6)):
                    told = (much, web, r)
                    self.assertIs(off_shows(list(tally), told), shows_by_the_words(tally, told), (tally, told))

    def test_how_much_one_or_two_more_or_fewer(self):
        for tally in [[0], [1, 1, 1], [3, 3, 1, 1], [2, 2]] + list(GREAT):
            much, web, r = least_off(tally)
            self.assertIs(off_shows(tally, (much, web, r)), True)
            for other in (much - 2, much - 1, much + 1, much + 2, -much - 1, SIXTY, -SIXTY):
                if other != much:
                    self.assertIs(off_shows(tally, (other, web, r)), False, (tally, other))

    def test_another_r(self):
        for tally in [[0], [1, 1, 1], [3, 3, 1, 1], [2, 2]] + list(GREAT):
            much, web, r = least_off(tally)
            for other in NUMBERS + (len(tally) + 1, len(tally) + 2, -len(tally)):
                if other not in range(len(tally) + 1):
                    self.assertIs(off_shows(tally, (much, web, other)), False, (tally, other))
            for other in range(len(tally) + 1):
                told = (much, web, other)
                self.assertIs(off_shows(tally, told), shows_by_the_words(tally, told), told)

    def test_an_r_whose_room_wants_one_less(self):
        # At 0 no room is wanting, so that the sum, which is odd, shows that 1 is the least.
        self.assertIs(off_shows([1, 1, 1], (1, (3, ((0, 1),)), 0)), True)
        # At 1 and at 2 the room is 1: the want is one below nought and odd as the sum is.
        self.assertIs(off_shows([1, 1, 1], (1, (3, ((0, 1),)), 1)), False)
        self.assertIs(off_shows([1, 1, 1], (1, (3, ((0, 1),)), 2)), False)
        self.assertIs(off_shows([1, 1, 1], (1, (3, ((0, 1),)), 3)), False)
        tally = (2, 1, 1)
        web = (3, ((0, 1), (0, 2)))
        self.assertEqual([room_by_the_words(tally, r) for r in range(4)], [0, 0, 0, 2])
        self.assertEqual([off_shows(tally, (0, web, r)) for r in range(4)], [True, True, True, False])
        # The room at 1 is 1, and the sum is even: so nothing less than 0 can be lacking.
        tally = (2, 2, 2, 2)
        web = (4, ((0, 1), (0, 2), (1, 3), (2, 3)))
        self.assertEqual([room_by_the_words(tally, r) for r in range(5)], [0, 1, 2, 2, 4])
        self.assertEqual([off_shows(tally, (0, web, r)) for r in range(5)], [True, True, False, False, False])
        # At 1 the room wants 1, which the even sum makes 2; at 2 and at 3 it wants nothing.
        tally = (4, 2, 2, 2)
        self.assertEqual([room_by_the_words(tally, r) for r in range(5)], [0, -1, 0, 0, 2])
        self.assertEqual([off_shows(tally, (2, web, r)) for r in range(5)], [False, True, False, False, False])

    def test_any_right_web(self):
        for web in ((3, ((0, 1),)), (3, ((0, 2),)), (3, ((1, 2),))):
            self.assertIs(off_shows([1, 1, 1], (1, web, 0)), True)
        self.assertIs(off_shows([1, 1, 1], (3, (3, ()), 0)), False)
        self.assertIs(off_shows([1, 1, 1], (1, (3, ((0, 1), (0, 2))), 0)), False)
        self.assertIs(off_shows([1, 1, 1], (-1, (3, ((0, 1), (0, 2))), 0)), False)

    def test_webs_that_are_not_told_so(self):
        tally = [3, 2, 2, 2]
        right = ((0, 1), (0, 2), (1, 3), (2, 3))
        self.assertIs(off_shows(tally, (1, (4, right), 0)), True)
        self.assertIs(off_shows(tally, (1, (4, ((0, 1), (0, 2), (1, 3), (3, 2))), 0)), False)
        self.assertIs(off_shows(tally, (1, (4, ((1, 0), (0, 2), (1, 3), (2, 3))), 0)), False)
        self.assertIs(off_shows(tally, (1, (4, ((0, 2), (0, 1), (1, 3), (2, 3))), 0)), False)
        self.assertIs(off_shows(tally, (1, (4, ((0, 1), (0, 2), (2, 3), (1, 3))), 0)), False)
        self.assertIs(off_shows(tally, (1, (4, ((0, 1), (0, 1), (2, 3), (2, 3))), 0)), False)
        self.assertIs(off_shows(tally, (1, (4, ((0, 0), (1, 2), (1, 3), (2, 3))), 0)), False)
        for places in NUMBERS + (0, 1, 2, 3, 5):
            self.assertIs(off_shows(tally, (1, (places, right), 0)), False)
        for end in NUMBERS + (4, 5, -4):
            self.assertIs(off_shows(tally, (1, (4, ((0, 1), (0, 2), (1, 3), (2, end))), 0)), False)
            self.assertIs(off_shows(tally, (1, (4, ((0, 1), (0, 2), (1, 3), (end, 3))), 0)), False)

    def test_of_another_number_of_places(self):
        self.assertIs(off_shows([1, 1], (0, (2, ((0, 1),)), 0)), True)
        self.assertIs(off_shows([1, 1], (0, (3, ((0, 1),)), 0)), False)
        self.assertIs(off_shows([1, 1, 0], (0, (2, ((0, 1),)), 0)), False)
        self.assertIs(off_shows([1, 1, 1], (1, (2, ((0, 1),)), 0)), False)
        self.assertIs(off_shows([1, 1, 0], (0, (3, ((0, 1),)), 0)), True)

    def test_more_ties_at_some_place_than_told(self):
        # The sums are those of a right one, but a place has too many ties.
        self.assertIs(off_shows([2, 1, 1, 1], (1, (4, ((0, 1), (0, 2))), 0)), True)
        self.assertIs(off_shows([2, 1, 1, 1], (1, (4, ((0, 1), (1, 2))), 0)), False)
        self.assertIs(off_shows([1, 1, 0, 0], (0, (4, ((0, 2),)), 0)), False)

    def test_lists_and_tuples_and_what_is_handed_in_stays(self):
        for tally in GREAT:
            told = least_off(tally)
            kept = list(tally)
            for asked in range(2):
                self.assertIs(off_shows(tally, told), True)
                self.assertIs(off_shows(tuple(tally), told), True)
            self.assertEqual(tally, kept)

    def test_refusals(self):
        tolds = ((0, (1, ()), 0), (1, (2, ((0, 1),)), SIXTY), (-SIXTY, (-1, ((7, 7), (-3, 9))), -1))
        for told in tolds:
            for tally in NOT_TALLIES + ([-1] * 25,):
                with self.assertRaises(BadTally):
                    off_shows(tally, told)
            for tally in NO_WEBS:
                with self.subTest(tally=tally, told=told), self.assertRaises(NoWeb):
                    off_shows(tally, told)


class LeastOn(unittest.TestCase):
    def assert_on(self, tally, much):
        told = least_on(tally)
        self.assertIs(type(told), tuple)
        self.assertEqual([type(part) for part in told], [int, tuple])
        self.assertEqual(told[0], much, tally)
        self.assertTrue(is_web(told[1]), told)
        ties = counted(told[1])
        self.assertEqual(len(ties), len(tally))
        self.assertTrue(all(many >= number for many, number in zip(ties, tally)), told)
        self.assertEqual(sum(ties) - sum(tally), much, told)

    def test_by_hand(self):
        self.assertEqual(least_on([0]), (0, (1, ())))
        self.assertEqual(least_on([1, 0]), (1, (2, ((0, 1),))))
        self.assertEqual(least_on((1, 1)), (0, (2, ((0, 1),))))
        self.assertEqual(least_on([2, 0, 0]), (2, (3, ((0, 1), (0, 2)))))
        self.assertEqual(least_on([2, 1, 2]), (1, (3, ((0, 1), (0, 2), (1, 2)))))
        self.assertEqual(least_on([3, 3, 1, 1]), (2, (4, ((0, 1), (0, 2), (0, 3), (1, 2), (1, 3)))))
        self.assert_on([1, 1, 1], 1)
        self.assert_on([1, 0, 0], 1)

    def test_held_against_all_webs_of_small_tallies(self):
        for places in range(1, 5):
            held = webs_by_tally(places)
            for tally in itertools.product(range(places), repeat=places):
                above = [sum(one) for one in held if all(many >= number for many, number in zip(one, tally))]
                self.assert_on(tally, min(above) - sum(tally))
                self.assert_on(list(tally), min(above) - sum(tally))

    def test_held_against_all_webs_of_five_places(self):
        held = webs_by_tally(5)
        for tally in list(itertools.product(range(5), repeat=5))[::3]:
            above = [sum(one) for one in held if all(many >= number for many, number in zip(one, tally))]
            self.assert_on(tally, min(above) - sum(tally))

    def test_the_same_as_is_taken_off_the_other_tally(self):
        tallies = list(itertools.product(range(5), repeat=5))[::2] + [counted(web) for web in great_webs()]
        tallies += [[place * place % 24 for place in range(24)], [23, 0] * 12, list(range(24)), [1] * 23]
        for tally in tallies:
            other = [len(tally) - 1 - number for number in tally]
            self.assert_on(tally, least_off(other)[0])

    def test_great_tallies(self):
        whole = (24, tuple(all_pairs(24)))
        self.assertEqual(least_on([23] * 24), (0, whole))
        self.assertEqual(least_on([23] * 23 + [0]), (23, whole))
        star = (24, tuple((0, place) for place in range(1, 24)))
        self.assertEqual(least_on([23] + [0] * 23), (23, star))
        self.assertEqual(least_on([0] * 24), (0, (24, ())))
        self.assert_on([1] * 23, 1)
        self.assert_on([3] * 23, 1)
        self.assert_on([12] * 24, 0)
        for web in list(great_webs()) + [round_web(24, 1, 5)]:
            self.assert_on(list(counted(web)), 0)

    def test_the_same_asked_twice_and_what_is_handed_in_stays(self):
        tally = [3, 0, 3, 1]
        self.assertEqual(least_on(tally), least_on(tally))
        self.assertEqual(least_on(tuple(tally)), least_on(tally))
        self.assertEqual(tally, [3, 0, 3, 1])

    def test_refusals(self):
        for tally in NOT_TALLIES + ([-1] * 25, [30] * 25):
            with self.assertRaises(BadTally):
                least_on(tally)
        above = ([1], [2, 0], [0, 2], [3, 1, 1], [24] + [0] * 23, [0] * 23 + [24], [SIXTY, 0], (5, 5, 5, 5, 5))
        for tally in NO_WEBS + above + ([-1, 2], [SIXTY, -SIXTY, 0]):
            with self.subTest(tally=tally), self.assertRaises(NoWeb):
                least_on(tally)


if __name__ == "__main__":
    unittest.main()
