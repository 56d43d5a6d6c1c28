"""Webs: a tuple of how many places, and a tuple of ties, each the lesser place first, ascending."""

from tallyweb.errors import BadWeb, NoPlace

MOST_PLACES = 24


def is_place(places, number):
    return 0 <= number < places


def check_place(places, number):
    if not is_place(places, number):
        raise NoPlace("the number is no place")


def turned_up(places, tie):
    if not is_place(places, tie[0]) or not is_place(places, tie[1]):
        raise BadWeb("a tie has an end that is no place")
    if tie[0] == tie[1]:
        raise BadWeb("a tie joins a place with itself")
    return (min(tie[0], tie[1]), max(tie[0], tie[1]))


def made(places, ties):
    if not 1 <= places <= MOST_PLACES:
        raise BadWeb("a web has 1 to 24 places")
    ascending = sorted([turned_up(places, tie) for tie in ties])
    if len(set(ascending)) < len(ascending):
        raise BadWeb("two ties join the same two places")
    return (places, tuple(ascending))


def tally_of(web):
    tally = [0] * web[0]
    for one, other in web[1]:
        tally[one] += 1
        tally[other] += 1
    return tally


def tied(web, one, other):
    check_place(web[0], one)
    check_place(web[0], other)
    return (min(one, other), max(one, other)) in web[1]


def all_pairs(places):
    pairs = []
    for one in range(places):
        pairs += [(one, other) for other in range(one + 1, places)]
    return pairs


def other_web(web):
    return (web[0], tuple([pair for pair in all_pairs(web[0]) if pair not in web[1]]))


def beside(web):
    near = [[] for place in range(web[0])]
    for one, other in web[1]:
        near[one].append(other)
        near[other].append(one)
    return near


def is_told(web):
    try:
        return made(web[0], web[1]) == web
    except BadWeb:
        return False
