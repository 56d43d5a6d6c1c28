"""Exchanges: two ties of a web taken out for two others, so that the tally stays."""

from tallyweb.errors import NoExchange, Unlike
from tallyweb.leading import steps_between
from tallyweb.tallies import order_of
from tallyweb.webs import beside, is_place, made, tally_of, tied


def can_exchange(web, four):
    if not all([is_place(web[0], number) for number in four]) or len(set(four)) < 4:
        return False
    if not tied(web, four[0], four[1]) or not tied(web, four[2], four[3]):
        return False
    return not tied(web, four[0], four[3]) and not tied(web, four[2], four[1])


def exchanged(web, four):
    if not can_exchange(web, four):
        raise NoExchange("the four are no exchange of the web")
    taken_out = [(four[0], four[1]), (four[1], four[0]), (four[2], four[3]), (four[3], four[2])]
    kept = [tie for tie in web[1] if tie not in taken_out]
    return made(web[0], kept + [(four[0], four[3]), (four[2], four[1])])


def exchanges_from(near, a, b):
    # Of the unlikeness of the four only c from b and d from a must be seen to: the ties tell the rest.
    found = []
    for c in range(len(near)):
        if c != b and c not in near[b]:
            found += [(a, b, c, d) for d in near[c] if d != a and d not in near[a]]
    return found


def exchanges_of(web):
    near = beside(web)
    found = []
    for a in range(web[0]):
        for b in near[a]:
            found += exchanges_from(near, a, b)
    return found


def ties_lacking(web, other):
    return (web[0], tuple(sorted(set(web[1]) - set(other[1]))))


def leading_nearer(one, two):
    # With b of those with the most unlike ties there is such an a for each c and d: else d would have
    # more of the first web's own ties than b has, to all of b's ends, to c, and to b if it is an end itself.
    out = ties_lacking(one, two)
    near_out = beside(out)
    b = order_of(tally_of(out))[0]
    c = beside(ties_lacking(two, one))[b][0]
    d = near_out[c][0]
    a = [end for end in near_out[b] if end != d and end not in near_out[d]][0]
    return (a, b, c, d)


def led(one, two):
    if tally_of(one) != tally_of(two):
        raise Unlike("the tallies of the two webs are unlike")
    # Where a and d are tied in both webs the exchange is one that ends at the second web, not one that
    # begins at the first: either way at least two unlike ties fewer are left.
    return steps_between(one, two, leading_nearer, can_exchange, exchanged)
