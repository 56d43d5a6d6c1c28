"""Thick webs: with several ties between two places, up to a most."""

from tallyweb.errors import BadNumber
from tallyweb.levels import least_where, shares
from tallyweb.tallies import check_tally
from tallyweb.walls import room_with, wall_shows_with, wall_with
from tallyweb.webs import is_told

GREATEST_MOST = 10 ** 6


def check_most(tally, most):
    check_tally(tally)
    if not 1 <= most <= GREATEST_MOST:
        raise BadNumber("the most is from 1 to 10 ** 6")


def thick_room(tally, most, r):
    check_most(tally, most)
    return room_with(tally, most, r)


def thick_laid(tally, most):
    # Exchanges bring the ties of a place to where most are lacking, so its ties can be laid there.
    triples = []
    left = list(tally)
    for place in range(len(tally)):
        behind = left[1:]
        laid = shares(behind, left[0], most)
        triples += [(place, other, many) for other, many in enumerate(laid, start=place + 1) if many > 0]
        left = [number - many for number, many in zip(behind, laid)]
    return (len(tally), tuple(triples))


def thick_answered(tally, most):
    check_most(tally, most)
    wall = wall_with(tally, most)
    if wall is not None:
        return ("wall", wall)
    return ("web", thick_laid(tally, most))


def thick_tally(web):
    tally = [0] * web[0]
    for one, other, many in web[1]:
        tally[one] += many
        tally[other] += many
    return tally


def is_thick_web_of(tally, most, web):
    # With one tie for each triple it is told as a web just where the triples are ascending, each two places once.
    thin = (web[0], tuple([(triple[0], triple[1]) for triple in web[1]]))
    if not is_told(thin) or not all([1 <= triple[2] <= most for triple in web[1]]):
        return False
    return thick_tally(web) == list(tally)


def thick_shows(tally, most, told):
    check_most(tally, most)
    if told[0] == "web":
        return is_thick_web_of(tally, most, told[1])
    return wall_shows_with(tally, most, told[1])


def least_most(tally):
    if wall_with(tally, GREATEST_MOST) is not None:
        return None
    return least_where(1, GREATEST_MOST, lambda most: wall_with(tally, most) is None)
