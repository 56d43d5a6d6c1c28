"""The least change: how little must be taken off a tally, or put to it, so that there is a web."""

from tallyweb.errors import NoWeb
from tallyweb.laying import answered
from tallyweb.levels import shares
from tallyweb.tallies import check_tally
from tallyweb.walls import places_below, room
from tallyweb.webs import is_told, other_web, tally_of


def check_none_below(tally):
    check_tally(tally)
    if places_below(tally):
        raise NoWeb("a number is below nought")


def off_by_want(tally, want):
    # Ties come to an even sum, so what a web lacks is odd just where the sum of the tally is.
    return want + (want + sum(tally)) % 2


def lacks(tally, web, much):
    if not is_told(web) or web[0] != len(tally):
        return False
    lacking = [number - many for number, many in zip(tally, tally_of(web))]
    return not places_below(lacking) and sum(lacking) == much


def least_off(tally):
    check_none_below(tally)
    rooms = [room(tally, r) for r in range(len(tally) + 1)]
    much = off_by_want(tally, -min(rooms))
    lacking = shares(tally, much, max(tally))
    web = answered([number - less for number, less in zip(tally, lacking)])[1]
    return (much, web, rooms.index(min(rooms)))


def least_on(tally):
    check_none_below(tally)
    # A number above one less than the places makes one of these fall below nought, and least_off refuses it.
    told = least_off([len(tally) - 1 - number for number in tally])
    return (told[0], other_web(told[1]))


def off_shows(tally, told):
    check_none_below(tally)
    if not 0 <= told[2] <= len(tally) or not lacks(tally, told[1], told[0]):
        return False
    return told[0] == off_by_want(tally, -room(tally, told[2]))
