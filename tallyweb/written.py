"""Numbers, ties, webs and walls as they are written."""

from tallyweb.errors import NoText
from tallyweb.webs import is_told

FIGURES = "0123456789"
MOST_FIGURES = 60
MOST_FIGURES_OF_END = 2


def is_number(word, most):
    figures = word[1:] if word.startswith("-") else word
    if not 1 <= len(figures) <= most or not all([sign in FIGURES for sign in figures]):
        return False
    return word == "0" or figures[0] != "0"


def number_within(word, most):
    if not is_number(word, most):
        raise NoText("the word writes no number of so few figures")
    return int(word)


def number_in(word):
    return number_within(word, MOST_FIGURES)


def tie_in(word):
    parts = word.partition("-")
    tie = (number_within(parts[0], MOST_FIGURES_OF_END), number_within(parts[2], MOST_FIGURES_OF_END))
    # A second number below nought is the lesser one, so it is refused too.
    if tie[0] >= tie[1]:
        raise NoText("in a tie the lesser of two unlike places stands first")
    return tie


def web_text(web):
    return " ".join(["web"] + [f"{one}-{other}" for one, other in web[1]])


def web_in(row, places):
    words = row.split(" ")
    if words[0] != "web":
        raise NoText("the row does not begin with the word web")
    web = (places, tuple([tie_in(word) for word in words[1:]]))
    if not is_told(web):
        raise NoText("the ties are not those of a web of so many places, ascending")
    return web


def row_text(parts):
    return " ".join([str(part) for part in parts])


def numbers_behind(row, first, many):
    words = row.split(" ")
    if words[0] != first or len(words) != many + 1:
        raise NoText("the row is not that word and so many numbers behind it")
    return [number_in(word) for word in words[1:]]


def wall_in(row):
    if row == "odd":
        return ("odd",)
    if row.startswith("below"):
        return ("below", numbers_behind(row, "below", 1)[0])
    return ("wall", numbers_behind(row, "wall", 1)[0])
