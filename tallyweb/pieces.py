"""Pieces: the places that ties lead to from one another."""

from tallyweb.exchanges import exchanged
from tallyweb.laying import answered
from tallyweb.walls import check_has_web, wall_of
from tallyweb.webs import beside, tied, turned_up


def piece_around(near, place):
    found = {place: True}
    edge = [place]
    while edge:
        here = edge.pop()
        for end in near[here]:
            if end not in found:
                found[end] = True
                edge.append(end)
    return sorted(found)


def pieces_of(web):
    near = beside(web)
    around = [piece_around(near, place) for place in range(web[0])]
    # Each piece is found once from each of its places: the one from its first place stands for it.
    return [piece for place, piece in enumerate(around) if piece[0] == place]


def in_ring(web, one, other):
    if not tied(web, one, other):
        return False
    taken_out = turned_up(web[0], (one, other))
    kept = [tie for tie in web[1] if tie != taken_out]
    return other in piece_around(beside((web[0], kept)), one)


def how_few(tally):
    noughts = tally.count(0)
    others = len(tally) - noughts
    if others == 0:
        return noughts
    return noughts + max(1, others - sum(tally) // 2)


def joining(web):
    # While there are more pieces than need be, not all of them are trees, so that there is such a ring;
    # what it loses by the tie it does not fall apart by, and both ends of the other tie come to hang on it.
    of_ring = [tie for tie in web[1] if in_ring(web, tie[0], tie[1])][0]
    piece = piece_around(beside(web), of_ring[0])
    of_another = [tie for tie in web[1] if tie[0] not in piece][0]
    return of_ring + of_another


def fewest_pieces(tally):
    check_has_web(tally)
    fewest = how_few(tally)
    web = answered(tally)[1]
    while len(pieces_of(web)) > fewest:
        web = exchanged(web, joining(web))
    return (fewest, web)


def tree_of(tally):
    if wall_of(tally) is not None or sum(tally) != 2 * (len(tally) - 1):
        return None
    told = fewest_pieces(tally)
    return told[1] if told[0] == 1 else None
