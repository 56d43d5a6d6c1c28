"""Webs and tallies that several tests walk over, made without the program."""

import itertools

SIXTY = 10 ** 60 - 1
NOT_TALLIES = ([], (), [0] * 25, (0,) * 25, list(range(30)), (3,) * 1000)
WITHOUT_WEB = (
    [1], [-1], [2], [1, 0], [1, 3, 1, 3], (2, 2), [0, -1, 1], [SIXTY] * 2, [-SIXTY, SIXTY], (24,) * 24, [1] * 23,
)


def all_pairs(places):
    return list(itertools.combinations(range(places), 2))


def all_webs(places):
    pairs = all_pairs(places)
    for many in range(len(pairs) + 1):
        for ties in itertools.combinations(pairs, many):
            yield (places, ties)


def counted(web):
    """The tally of a web, as a tuple."""
    tally = [0] * web[0]
    for one, other in web[1]:
        tally[one] += 1
        tally[other] += 1
    return tuple(tally)


def webs_by_tally(places):
    held = {}
    for web in all_webs(places):
        held.setdefault(counted(web), []).append(web)
    return held


def great_webs():
    """Webs of 7 to 24 places, of no ties to all ties."""
    for places in (7, 12, 19, 23, 24):
        for let in range(12):
            for turn in (1, 4):
                ties = [
                    (one, other) for one, other in all_pairs(places)
                    if (one * one * turn + 5 * other + 3 * one * other) % 11 < let
                ]
                yield (places, tuple(ties))


def round_web(places, *far):
    """The places in a round, each tied to those so far from it."""
    pairs = all_pairs(places)
    return (places, tuple(pair for pair in pairs if (pair[1] - pair[0]) in far or places - (pair[1] - pair[0]) in far))


def is_web(web):
    """Whether it is told as point [5] says, kinds and all."""
    if type(web) is not tuple or len(web) != 2 or type(web[0]) is not int or type(web[1]) is not tuple:
        return False
    pairs = all_pairs(web[0]) if 1 <= web[0] <= 24 else []
    places_known = {pair: place for place, pair in enumerate(pairs)}
    for tie in web[1]:
        if type(tie) is not tuple or [type(end) for end in tie] != [int, int] or tie not in places_known:
            return False
    told = [places_known[tie] for tie in web[1]]
    return 1 <= web[0] <= 24 and told == sorted(set(told))


def walked_pieces(web):
    """The pieces of a web: a tie whose ends are in two pieces makes them one."""
    pieces = [[place] for place in range(web[0])]
    for tie in web[1]:
        held = [piece for piece in pieces if tie[0] in piece or tie[1] in piece]
        if len(held) == 2:
            pieces = [piece for piece in pieces if piece not in held] + [held[0] + held[1]]
    return sorted(sorted(piece) for piece in pieces)


def room_by_the_words(tally, r, most=1):
    """The room at r as points [7] and [22] tell it."""
    order = sorted(range(len(tally)), key=lambda place: (-tally[place], place))
    space = most * r * (r - 1)
    for place in order[r:]:
        space += tally[place] if tally[place] < most * r else most * r
    for place in order[:r]:
        space -= tally[place]
    return space


def is_wall(tally, wall, most=1):
    if wall[0] == "odd":
        return sum(tally) % 2 == 1
    if wall[0] == "below":
        return wall[1] in range(len(tally)) and tally[wall[1]] < 0
    return wall[1] in range(1, len(tally) + 1) and room_by_the_words(tally, wall[1], most) < 0


def all_walls(places):
    """Every wall that some tally of so many places has, in the order in which one is told."""
    return [("below", place) for place in range(places)] + [("odd",)] + [("wall", r) for r in range(1, places + 1)]


def told_wall(tally, most=1):
    return next((wall for wall in all_walls(len(tally)) if is_wall(tally, wall, most)), None)


def webs_of(tally):
    """All webs of a tally, in the order of their ties: each pair of places in turn is tied or left."""
    places = len(tally)
    begun = [((), tuple(tally))]
    for one, other in all_pairs(places):
        longer = []
        for ties, left in begun:
            fewer = tuple(number - 1 if place in (one, other) else number for place, number in enumerate(left))
            longer += [(ties + ((one, other),), fewer), (ties, left)]
        # Behind its last pair a place has nothing left to take.
        begun = [
            (ties, left) for ties, left in longer
            if min(left) >= 0 and max(left) < places and (other < places - 1 or left[one] == 0)
        ]
    return sorted((places, ties) for ties, left in begun if set(left) == {0})


def written(web):
    row = "web"
    for tie in web[1]:
        row += " " + str(tie[0]) + "-" + str(tie[1])
    return row
