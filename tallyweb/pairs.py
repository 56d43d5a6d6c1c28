"""Pairs: two places that are tied in all webs of a tally, in none of them, or in some."""

from tallyweb.errors import NoPlace
from tallyweb.laying import first_of_order, is_web_of, laid_around
from tallyweb.tallies import moved
from tallyweb.walls import check_has_web, wall_of, wall_shows
from tallyweb.webs import all_pairs, check_place, tied


def check_pair(places, one, other):
    check_place(places, one)
    check_place(places, other)
    if one == other:
        raise NoPlace("a pair is of two unlike places")


def moved_both(tally, one, other, more):
    return moved(moved(tally, one, more), other, more)


def laid_with(tally, one, other):
    # With the tie settled, the other ends can still be the first of the order: an exchange that
    # brings an earlier one in for a later one leaves the tie as it is.
    ends = first_of_order(tally, tally[one] - 1, [one, other])
    return laid_around(tally, one, ends + [other])


def laid_without(tally, one, other):
    return laid_around(tally, one, first_of_order(tally, tally[one], [one, other]))


def pair_told(tally, one, other):
    check_has_web(tally)
    check_pair(len(tally), one, other)
    wall = wall_of(moved_both(tally, one, other, 1))
    if wall is not None:
        return ("all", wall)
    wall = wall_of(moved_both(tally, one, other, -1))
    if wall is not None:
        return ("none", wall)
    return ("some", laid_with(tally, one, other), laid_without(tally, one, other))


def some_shows(tally, one, other, with_it, without):
    if not is_web_of(tally, with_it) or not is_web_of(tally, without):
        return False
    return tied(with_it, one, other) and not tied(without, one, other)


def pair_shows(tally, one, other, told):
    check_has_web(tally)
    check_pair(len(tally), one, other)
    if told[0] == "some":
        return some_shows(tally, one, other, told[1], told[2])
    more = 1 if told[0] == "all" else -1
    return wall_shows(moved_both(tally, one, other, more), told[1])


def pairs_walled(tally, more):
    check_has_web(tally)
    pairs = all_pairs(len(tally))
    return [pair for pair in pairs if wall_of(moved_both(tally, pair[0], pair[1], more)) is not None]


def always(tally):
    return pairs_walled(tally, 1)


def never(tally):
    return pairs_walled(tally, -1)
