"""Webs laid: of each tally a web, place by place, or its wall."""

from tallyweb.errors import NoWeb
from tallyweb.tallies import check_tally, order_of
from tallyweb.walls import wall_of, wall_shows
from tallyweb.webs import check_place, is_told, made, tally_of


def first_of_order(tally, many, passed_over):
    return [place for place in order_of(tally) if place not in passed_over][:many]


def left_of_others(tally, place, ends):
    others = [one for one in range(len(tally)) if one != place]
    return [tally[one] - 1 if one in ends else tally[one] for one in others]


def left_by(tally, place):
    check_tally(tally)
    check_place(len(tally), place)
    if not 0 <= tally[place] < len(tally):
        raise NoWeb("a place is tied to none of the others at least, and to all of them at most")
    return left_of_others(tally, place, first_of_order(tally, tally[place], [place]))


def laid_around(tally, place, ends):
    ties = [(place, end) for end in ends]
    places = [one for one in range(len(tally)) if one != place]
    left = left_of_others(tally, place, ends)
    while left:
        chosen = first_of_order(left, left[0], [0])
        ties += [(places[0], places[one]) for one in chosen]
        left = left_of_others(left, 0, chosen)
        places = places[1:]
    return made(len(tally), ties)


def answered(tally):
    wall = wall_of(tally)
    if wall is not None:
        return ("wall", wall)
    return ("web", laid_around(tally, 0, first_of_order(tally, tally[0], [0])))


def is_web_of(tally, web):
    return is_told(web) and tally_of(web) == list(tally)


def answer_shows(tally, told):
    check_tally(tally)
    if told[0] == "web":
        return is_web_of(tally, told[1])
    return wall_shows(tally, told[1])
