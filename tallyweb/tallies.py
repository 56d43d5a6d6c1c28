"""Tallies: for each place how many ties it should have."""

from tallyweb.errors import BadTally
from tallyweb.webs import MOST_PLACES, check_place


def check_tally(tally):
    if not 1 <= len(tally) <= MOST_PLACES:
        raise BadTally("a tally has 1 to 24 numbers")


def order_of(tally):
    check_tally(tally)
    return sorted(range(len(tally)), key=lambda place: (-tally[place], place))


def moved(tally, place, more):
    check_tally(tally)
    check_place(len(tally), place)
    changed = list(tally)
    changed[place] += more
    return changed
