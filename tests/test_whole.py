"""What one module tells agrees with what the others tell: points [8], [9], [11], [12], [14], [15], [16], [22], [23]."""

import functools
import itertools
import unittest

from small import all_pairs, counted, is_web, walked_pieces
from tallyweb.counting import how_many, in_how_many, number_of, web_at
from tallyweb.desk import answer, judged
from tallyweb.exchanges import exchanged, exchanges_of, led
from tallyweb.laying import answer_shows, answered, left_by
from tallyweb.least import least_off, least_on, off_shows
from tallyweb.pairs import always, never, pair_shows, pair_told
from tallyweb.pieces import fewest_pieces, pieces_of, tree_of
from tallyweb.seen import grown, growth, parted
from tallyweb.thick import least_most, thick_answered, thick_shows
from tallyweb.walls import room, wall_of, wall_shows
from tallyweb.webs import other_web, tally_of, tied
from tallyweb.written import web_in, web_text

SIX_AND_SEVEN = [
    list(tally) for tally in itertools.combinations_with_replacement(range(6), 6)
][::7] + [
    list(reversed(tally)) for tally in itertools.combinations_with_replacement(range(7), 7)
][::41] + [[3, 3, 3, 3, 3, 3, 4], [2] * 7, [1, 1, 1, 1, 1, 1, 2], [1, 2, 1, 2, 1, 2, 1]]


def small_tallies():
    for places in range(1, 5):
        for tally in itertools.product(range(-1, places + 1), repeat=places):
            yield list(tally)
    for tally in itertools.combinations_with_replacement(range(5), 5):
        yield list(tally)
    yield from SIX_AND_SEVEN


def tallies_with_a_web():
    for tally in small_tallies():
        if how_many(tally) > 0:
            yield tally


@functools.cache
def numbered_webs(tally):
    return [web_at(tally, number) for number in range(how_many(tally))]


def webs_told(tally):
    return numbered_webs(tuple(tally))


class WebOrWall(unittest.TestCase):
    def test_a_web_or_a_wall_never_both(self):
        for tally in small_tallies():
            told = answered(tally)
            has_web = how_many(tally) > 0
            self.assertEqual(told[0], "web" if has_web else "wall", tally)
            self.assertEqual(wall_of(tally) is None, has_web)
            self.assertIs(answer_shows(tally, told), True)
            walls = [("odd",)] + [(word, number) for word in ("below", "wall") for number in range(-1, 9)]
            self.assertEqual(any(wall_shows(tally, wall) for wall in walls), not has_web)
            if has_web:
                self.assertEqual(tally_of(told[1]), tally)
                self.assertEqual(web_at(tally, number_of(told[1])), told[1])

    def test_a_web_just_where_what_is_left_has_one(self):
        for tally in small_tallies():
            if len(tally) > 1 and min(tally) >= 0 and max(tally) < len(tally):
                for place in range(len(tally)):
                    left = left_by(tally, place)
                    self.assertEqual(how_many(left) > 0, how_many(tally) > 0, (tally, place))

    def test_the_same_at_the_desk(self):
        for tally in small_tallies():
            question = " ".join(["web"] + [str(number) for number in tally])
            row = answer(question)
            if how_many(tally) > 0:
                self.assertIn(web_in(row, len(tally)), webs_told(tally))
                for web in webs_told(tally)[:20]:
                    self.assertIs(judged(question, web_text(web)), True)
            else:
                self.assertEqual(row, " ".join(str(part) for part in wall_of(tally)))

    def test_with_the_most_1_thick_webs_are_webs(self):
        for tally in small_tallies():
            told = thick_answered(tally, 1)
            if how_many(tally) > 0:
                thin = (told[1][0], tuple(triple[:2] for triple in told[1][1]))
                self.assertIn(thin, webs_told(tally))
                self.assertEqual(least_most(tally), 1)
                for web in webs_told(tally)[:20]:
                    thick = (web[0], tuple(tie + (1,) for tie in web[1]))
                    self.assertIs(thick_shows(tally, 1, ("web", thick)), True)
            else:
                self.assertEqual(told, ("wall", wall_of(tally)))
                self.assertNotEqual(least_most(tally), 1)


class AllWebs(unittest.TestCase):
    def test_the_webs_told_are_ascending_webs_of_the_tally(self):
        for tally in tallies_with_a_web():
            webs = webs_told(tally)
            self.assertTrue(all(is_web(web) and list(counted(web)) == tally for web in webs), tally)
            self.assertTrue(all(one[1] < two[1] for one, two in zip(webs, webs[1:])), tally)

    def test_exchanges_lead_from_each_to_each(self):
        for tally in tallies_with_a_web():
            webs = webs_told(tally)
            for one, two in list(itertools.product(webs[:8], webs[-8:])):
                steps = led(one, two)
                here = one
                for four in steps:
                    here = exchanged(here, four)
                self.assertEqual(here, two)
                self.assertLessEqual(len(steps), len(one[1]))
                self.assertEqual(steps == [], one == two)

    def test_exchanges_lead_to_webs_of_the_tally(self):
        for tally in tallies_with_a_web():
            webs = webs_told(tally)
            for web in webs[:3] + webs[-3:]:
                for four in exchanges_of(web):
                    self.assertIn(exchanged(web, four), webs)

    def test_as_many_of_the_other_tally(self):
        for tally in small_tallies():
            other = [len(tally) - 1 - number for number in tally]
            self.assertEqual(how_many(other), how_many(tally))
            for web in webs_told(tally)[:10]:
                self.assertIn(other_web(web), webs_told(other))


class Pairs(unittest.TestCase):
    def test_in_all_in_some_or_in_none_as_they_are_counted(self):
        for tally in tallies_with_a_web():
            webs = how_many(tally)
            known = {(one, other): in_how_many(tally, one, other) for one, other in all_pairs(len(tally))}
            self.assertEqual(always(tally), [pair for pair, many in known.items() if many == webs])
            self.assertEqual(never(tally), [pair for pair, many in known.items() if many == 0])
            for (one, other), many in known.items():
                told = pair_told(tally, one, other)
                self.assertEqual(told[0], "all" if many == webs else "some" if many else "none", (tally, one, other))
                self.assertIs(pair_shows(tally, one, other, told), True)
                question = " ".join(["pair", str(other), str(one)] + [str(number) for number in tally])
                self.assertEqual(answer(question).split("\n")[0].split(" ")[0], told[0])

    def test_counted_as_the_webs_tell(self):
        for tally in tallies_with_a_web():
            if how_many(tally) < 100:
                webs = webs_told(tally)
                for one, other in all_pairs(len(tally)):
                    self.assertEqual(in_how_many(tally, one, other), sum(tied(web, one, other) for web in webs))

    def test_all_ties_are_counted(self):
        for tally in small_tallies():
            ties = sum(in_how_many(tally, one, other) for one, other in all_pairs(len(tally)))
            self.assertEqual(2 * ties, how_many(tally) * sum(tally))


class Pieces(unittest.TestCase):
    def test_the_fewest_of_all_webs(self):
        for tally in tallies_with_a_web():
            webs = webs_told(tally)
            fewest = min(len(walked_pieces(web)) for web in webs)
            told = fewest_pieces(tally)
            self.assertEqual(told[0], fewest, tally)
            self.assertIn(told[1], webs)
            self.assertEqual(len(pieces_of(told[1])), fewest)
            question = " ".join(["pieces"] + [str(number) for number in tally])
            self.assertEqual(answer(question), f"pieces {fewest}\n{web_text(told[1])}")
            for web in webs[:20]:
                stands = judged(question, f"pieces {fewest}\n{web_text(web)}")
                self.assertIs(stands, len(pieces_of(web)) == fewest)

    def test_trees(self):
        for tally in small_tallies():
            trees = [web for web in webs_told(tally) if len(pieces_of(web)) == 1 and len(web[1]) == len(tally) - 1]
            self.assertIn(tree_of(tally), trees or [None])


class SeenByTheTally(unittest.TestCase):
    def test_lone_just_where_there_is_one_web(self):
        for tally in tallies_with_a_web():
            lone = how_many(tally) == 1
            web = answered(tally)[1]
            self.assertEqual(growth(tally) is not None, lone, tally)
            self.assertEqual(exchanges_of(web) == [], lone)
            self.assertEqual(len(always(tally) + never(tally)) == len(all_pairs(len(tally))), lone)
            if lone:
                self.assertEqual(grown(growth(tally)), web_at(tally, 0))

    def test_parted_all_or_none(self):
        for tally in tallies_with_a_web():
            first = parted(tally)
            for web in webs_told(tally)[:40]:
                groups = [first] if first is not None else [
                    group for many in range(len(tally) + 1) for group in itertools.combinations(range(len(tally)), many)
                ]
                parts = [
                    all(((one in group) + (other in group) != 2 or tied(web, one, other))
                        and ((one in group) + (other in group) != 0 or not tied(web, one, other))
                        for one, other in all_pairs(len(tally)))
                    for group in groups
                ]
                self.assertEqual(any(parts), first is not None, (tally, web))


class LeastChange(unittest.TestCase):
    def test_nought_just_where_there_is_a_web(self):
        for tally in small_tallies():
            if min(tally) >= 0:
                much, web, r = least_off(tally)
                self.assertEqual(much == 0, how_many(tally) > 0, tally)
                self.assertIs(off_shows(tally, (much, web, r)), True)
                self.assertEqual(min(room(tally, one) for one in range(len(tally) + 1)), room(tally, r))
                question = " ".join(["off"] + [str(number) for number in tally])
                self.assertEqual(answer(question), f"off {much} {r}\n{web_text(web)}")
                if max(tally) < len(tally):
                    self.assertEqual(least_on(tally)[0] == 0, how_many(tally) > 0)

    def test_what_is_told_is_a_web_of_what_is_left(self):
        for tally in small_tallies():
            if min(tally) >= 0:
                much, web, r = least_off(tally)
                left = tally_of(web)
                self.assertEqual(sum(left), sum(tally) - much)
                self.assertIn(web, webs_told(left))
                self.assertEqual(least_off(left)[0], 0)


if __name__ == "__main__":
    unittest.main()
