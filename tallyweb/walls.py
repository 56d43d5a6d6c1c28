"""Walls: by which anyone sees by adding up that a tally has no web."""

from tallyweb.errors import BadNumber, NoWeb
from tallyweb.tallies import check_tally
from tallyweb.webs import is_place


def falling(tally):
    return sorted(tally, reverse=True)


def room_among(numbers, r):
    # The numbers come falling, so that a walk over all r need not put them in order each time.
    from_others = sum([min(number, r) for number in numbers[r:]])
    return r * (r - 1) + from_others - sum(numbers[:r])


def room(tally, r):
    check_tally(tally)
    if not 0 <= r <= len(tally):
        raise BadNumber("r is from 0 to the number of places")
    return room_among(falling(tally), r)


def wall_of(tally):
    check_tally(tally)
    for place, number in enumerate(tally):
        if number < 0:
            return ("below", place)
    if sum(tally) % 2 == 1:
        return ("odd",)
    numbers = falling(tally)
    for r in range(1, len(numbers) + 1):
        if room_among(numbers, r) < 0:
            return ("wall", r)
    return None


def check_has_web(tally):
    if wall_of(tally) is not None:
        raise NoWeb("the tally has no web")


def wall_shows(tally, wall):
    check_tally(tally)
    if wall[0] == "odd":
        return sum(tally) % 2 == 1
    if wall[0] == "below":
        return is_place(len(tally), wall[1]) and tally[wall[1]] < 0
    # The room at 0 may be below nought too, but that is no wall.
    return 1 <= wall[1] <= len(tally) and room(tally, wall[1]) < 0
