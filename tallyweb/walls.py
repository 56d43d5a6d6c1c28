"""Walls: by which anyone sees by adding up that a tally has no web."""

from tallyweb.errors import BadNumber, NoWeb
from tallyweb.tallies import check_tally


def falling(tally):
    return sorted(tally, reverse=True)


def room_among(numbers, most, r):
    # The numbers come falling, so that a walk over all r need not put them in order each time.
    from_others = sum([min(number, most * r) for number in numbers[r:]])
    return most * r * (r - 1) + from_others - sum(numbers[:r])


def room_with(tally, most, r):
    check_tally(tally)
    if not 0 <= r <= len(tally):
        raise BadNumber("r is from 0 to the number of places")
    return room_among(falling(tally), most, r)


def room(tally, r):
    return room_with(tally, 1, r)


def places_below(numbers):
    return [place for place, number in enumerate(numbers) if number < 0]


def wall_with(tally, most):
    check_tally(tally)
    below = places_below(tally)
    if below:
        return ("below", below[0])
    if sum(tally) % 2 == 1:
        return ("odd",)
    numbers = falling(tally)
    for r in range(1, len(numbers) + 1):
        if room_among(numbers, most, r) < 0:
            return ("wall", r)
    return None


def wall_of(tally):
    return wall_with(tally, 1)


def check_has_web(tally):
    if wall_of(tally) is not None:
        raise NoWeb("the tally has no web")


def wall_shows_with(tally, most, wall):
    check_tally(tally)
    if wall[0] == "odd":
        return sum(tally) % 2 == 1
    if wall[0] == "below":
        return wall[1] in places_below(tally)
    # The room at 0 may be below nought too, but that is no wall.
    return 1 <= wall[1] <= len(tally) and room_with(tally, most, wall[1]) < 0


def wall_shows(tally, wall):
    return wall_shows_with(tally, 1, wall)
