"""The desk: questions are answered by texts, and answers judged, whoever wrote them."""

from tallyweb.errors import NoText, TallyError
from tallyweb.laying import answer_shows, answered, is_web_of
from tallyweb.least import least_off, off_shows
from tallyweb.pairs import pair_shows, pair_told
from tallyweb.pieces import fewest_pieces, how_few, pieces_of
from tallyweb.written import number_within, numbers_behind, row_text, wall_in, web_in, web_text

KINDS = ("web", "pair", "pieces", "off")
MOST_FIGURES_ASKED = 50
REFUSED = "refused"


def asked(question):
    words = question.split(" ")
    numbers = [number_within(word, MOST_FIGURES_ASKED) for word in words[1:]]
    ahead = 2 if words[0] == "pair" else 0
    if words[0] not in KINDS or len(numbers) < ahead:
        raise NoText("the text is no question")
    return (words[0], numbers[:ahead], numbers[ahead:])


def web_row(told):
    return web_text(told[1]) if told[0] == "web" else row_text(told[1])


def pair_rows(told):
    if told[0] == "some":
        return ["some", web_text(told[1]), web_text(told[2])]
    return [row_text((told[0],) + told[1])]


def rows_for(kind, pair, tally):
    if kind == "web":
        return [web_row(answered(tally))]
    if kind == "pair":
        return pair_rows(pair_told(tally, pair[0], pair[1]))
    if kind == "pieces":
        told = fewest_pieces(tally)
        return [row_text(("pieces", told[0])), web_text(told[1])]
    told = least_off(tally)
    return [row_text(("off", told[0], told[2])), web_text(told[1])]


def answer(question):
    try:
        parts = asked(question)
        return "\n".join(rows_for(parts[0], parts[1], parts[2]))
    except TallyError:
        return REFUSED


def web_stands(tally, first, webs):
    if webs:
        return False
    if first.startswith("web"):
        return answer_shows(tally, ("web", web_in(first, len(tally))))
    return answer_shows(tally, ("wall", wall_in(first)))


def pair_stands(tally, pair, first, webs):
    if first == "some":
        return len(webs) == 2 and pair_shows(tally, pair[0], pair[1], ("some", webs[0], webs[1]))
    parts = first.partition(" ")
    if webs or parts[0] not in ("all", "none"):
        return False
    return pair_shows(tally, pair[0], pair[1], (parts[0], wall_in(parts[2])))


def pieces_stands(tally, first, webs):
    many = numbers_behind(first, "pieces", 1)[0]
    if len(webs) != 1 or not is_web_of(tally, webs[0]):
        return False
    return many == how_few(tally) and many == len(pieces_of(webs[0]))


def off_stands(tally, first, webs):
    numbers = numbers_behind(first, "off", 2)
    return len(webs) == 1 and off_shows(tally, (numbers[0], webs[0], numbers[1]))


def stands(kind, pair, tally, rows):
    # In each answer all rows behind the first one are webs.
    webs = [web_in(row, len(tally)) for row in rows[1:]]
    if kind == "web":
        return web_stands(tally, rows[0], webs)
    if kind == "pair":
        return pair_stands(tally, pair, rows[0], webs)
    if kind == "pieces":
        return pieces_stands(tally, rows[0], webs)
    return off_stands(tally, rows[0], webs)


def judged(question, told):
    if told == REFUSED:
        return answer(question) == REFUSED
    try:
        parts = asked(question)
        return stands(parts[0], parts[1], parts[2], told.split("\n"))
    except TallyError:
        return False
