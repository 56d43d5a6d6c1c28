"""All webs of a small tally: how many there are, and each by its number."""

from tallyweb.errors import BadNumber, TooMany
from tallyweb.laying import left_of_others
from tallyweb.pairs import check_pair
from tallyweb.tallies import check_tally
from tallyweb.walls import falling
from tallyweb.webs import beside, made, tally_of

MOST_COUNTED = 7


def check_few(places):
    if places > MOST_COUNTED:
        raise TooMany("the webs of at most 7 places are counted")


def check_counted(tally):
    check_tally(tally)
    check_few(len(tally))


def choices(places, many):
    if many == 0:
        return [()]
    found = []
    for ahead, place in enumerate(places):
        found += [(place,) + rest for rest in choices(places[ahead + 1:], many - 1)]
    return found


def first_ends(left):
    # Each of them has as many ends, so that the order of the ends is the order of the ties.
    return choices(list(range(1, len(left))), left[0])


def count_behind(left, ends, known):
    return count_of(left_of_others(left, 0, ends), known)


def count_of(left, known):
    if not left:
        return 1
    # How many webs there are does not hang on which place has which number, so equal ones are counted once.
    numbers = tuple(falling(left))
    if numbers not in known:
        known[numbers] = sum([count_behind(numbers, ends, known) for ends in first_ends(numbers)])
    return known[numbers]


def count_ahead(left, ends, known):
    return sum([count_behind(left, earlier, known) for earlier in first_ends(left) if earlier < ends])


def how_many(tally):
    check_counted(tally)
    return count_of(tally, {})


def web_at(tally, number):
    check_counted(tally)
    known = {}
    if not 0 <= number < count_of(tally, known):
        raise BadNumber("the tally has no web of that number")
    left = list(tally)
    within = number
    ties = []
    for place in range(len(tally)):
        ends = [one for one in first_ends(left) if count_ahead(left, one, known) <= within][-1]
        within -= count_ahead(left, ends, known)
        ties += [(place, place + end) for end in ends]
        left = left_of_others(left, 0, ends)
    return made(len(tally), ties)


def number_of(web):
    check_few(web[0])
    known = {}
    left = tally_of(web)
    number = 0
    for place, near in enumerate(beside(web)):
        ends = tuple([end - place for end in near if end > place])
        number += count_ahead(left, ends, known)
        left = left_of_others(left, 0, ends)
    return number


def in_how_many(tally, one, other):
    check_counted(tally)
    check_pair(len(tally), one, other)
    others = [number for place, number in enumerate(tally) if place not in (one, other)]
    left = [tally[one], tally[other]] + others
    known = {}
    return sum([count_behind(left, ends, known) for ends in first_ends(left) if 1 in ends])
