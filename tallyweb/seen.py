"""What can be seen of the webs of a tally by the tally alone."""

from tallyweb.errors import BadWeb
from tallyweb.tallies import order_of
from tallyweb.walls import check_has_web, room
from tallyweb.webs import MOST_PLACES, made


def parted(tally):
    check_has_web(tally)
    order = order_of(tally)
    # The numbers fall and the bound rises, so that those that reach it are the first m.
    m = len([place for ahead, place in enumerate(order) if tally[place] >= ahead])
    return sorted(order[:m]) if room(tally, m) == 0 else None


def growth(tally):
    check_has_web(tally)
    order = order_of(tally)
    put_last = []
    # Whoever is tied to all has the greatest number, whoever to none the least: so what is left lies
    # between the two, and each one ahead of it has taken one tie of each.
    first = 0
    last = len(order) - 1
    while first < last:
        if tally[order[last]] == first:
            put_last.append((order[last], False))
            last -= 1
        elif tally[order[first]] == last:
            put_last.append((order[first], True))
            first += 1
        else:
            return None
    return [(order[first], False)] + list(reversed(put_last))


def check_steps(steps):
    if not 1 <= len(steps) <= MOST_PLACES:
        raise BadWeb("a growth has 1 to 24 steps")
    if sorted([step[0] for step in steps]) != list(range(len(steps))):
        raise BadWeb("in a growth each place stands once")
    if steps[0][1]:
        raise BadWeb("the first place of a growth has none to be tied to")


def grown(steps):
    check_steps(steps)
    there = []
    ties = []
    for place, to_all in steps:
        if to_all:
            ties += [(one, place) for one in there]
        there.append(place)
    return made(len(steps), ties)
