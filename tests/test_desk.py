"""Points [26] to [28] and the interface of tallyweb/desk.py."""

import itertools
import re
import unittest

from small import (
    all_pairs, all_walls, all_webs, counted, great_webs, is_wall, room_by_the_words, round_web, told_wall,
    walked_pieces, webs_of, written,
)
from tallyweb.desk import answer, judged
from tallyweb.laying import answered
from tallyweb.least import least_off
from tallyweb.pairs import pair_told
from tallyweb.pieces import fewest_pieces
from tallyweb.written import web_in

FIFTY = 10 ** 50 - 1
SIGNS = "0123456789- \nabdefilnoprsuwW+x"
NO_QUESTIONS = (
    "", " ", "\n", "refused", "web", "web ", "pair", "pair ", "pair 0", "pair 0 1", "pair 0 1 ", "pieces", "pieces ",
    "off", "off ", " web 1 1", "web 1 1 ", "web  1 1", "web 1  1", "web\n1 1", "web 1\n1", "web 1 1\n", "\nweb 1 1",
    "web 1 1\nweb 1 1", "web 1 1\noff 1 1", "Web 1 1", "WEB 1 1", "webs 1 1", "we 1 1", "web1 1", "web1", "1 1",
    "0 web", "web web 1 1", "web 1 x", "web x", "web 1 1.0", "web 1 +1", "web +0", "web 01 1", "web 1 01", "web -0",
    "web 0 -0", "web 00", "web 1,1", "web 1, 1", "web 0-1", "web 0-1 0-2", "web --1", "web - 1", "web 1-", "web 1e1",
    "web 1_0", "web [1, 1]", "wall 1", "wall 1 1", "odd", "odd 1 1", "below 0", "all 1 1", "some", "none 0 0", "on 1 1",
    "tree 1 1", "thick 1 1 1", "Pair 0 1 1 1", "pairs 0 1 1 1", "pair 0-1 1 1", "pair 0 x 1 1", "pair 00 1 1 1",
    "pair 0 01 1 1", "pair 0 1 1 1 ", "pair  0 1 1 1", "pair 0\n1 1 1", "pair 0 1 1 1\n", "piece 1 1", "Pieces 1 1",
    "pieces 1 1\n", "pieces1 1", "pieces 1  1", "Off 1 1", "offs 1 1", "off 1 1 ", "off 1\n1", "off 1 1\n", "off 1 01",
    "off much 1", "of 1 1",
)
REFUSED_BY_FUNCTIONS = (
    "web" + " 0" * 25, "web" + " 1" * 26, "web" + " 2" * 9000, "pieces" + " 0" * 25, "off" + " 0" * 25,
    "off" + " 1" * 30, "pair 0 1" + " 0" * 25, "pieces 1", "pieces -1", "pieces 1 1 1", "pieces 3 3 1 1", "pieces 2 2",
    "pieces 0 -1 1", "off -1", "off 0 -1", "off 3 -2 3", "off -1 1 1", "pair 0 0 1 1", "pair 1 1 1 1", "pair 0 2 1 1",
    "pair 2 0 1 1", "pair -1 0 1 1", "pair 0 -1 1 1", "pair 0 1 0", "pair 0 1 1", "pair 0 0 0", "pair 0 1 3 3 1 1",
    "pair 0 1 1 0", "pair 0 1 2 2", "pair 0 1 1 1 1", "pair 0 1 -1 -1", "pair 0 24" + " 1" * 24, f"pair 0 {FIFTY} 1 1",
    f"pair -{FIFTY} 0 1 1", f"pieces {FIFTY} 1", f"off -{FIFTY} 1", f"pair 0 1 {FIFTY} {FIFTY}",
)
LONG = ("x" * 20000, " " * 20000, "\n" * 20000, "0" * 20000, "-" * 20000, "web" + " 0-1" * 4999, "web" + " 0" * 9998,
        "web\n" * 5000, "odd\n" * 5000, "wall " + "1" * 19995, "refused" * 2857, "some\n" + "web 0-1\n" * 2400,
        "all " * 5000, "off " + "9 " * 9998, "pieces " + "9" * 19993, "web " + "1" * 19996, "pair " + "0 " * 9997 + "0")


def asked(kind, tally, pair=()):
    return " ".join([kind] + [str(number) for number in list(pair) + list(tally)])


def wall_rows(tally):
    walls = [wall for wall in all_walls(len(tally)) if is_wall(tally, wall)]
    return [" ".join(str(part) for part in wall) for wall in walls]


def both_moved(tally, pair, more):
    return [number + more if place in pair else number for place, number in enumerate(tally)]


def right_pairs(tally, pair):
    webs = webs_of(tally)
    if not webs or pair[0] == pair[1] or not all(0 <= place < len(tally) for place in pair):
        return ["refused"]
    tie = (min(pair), max(pair))
    with_it = [written(web) for web in webs if tie in web[1]]
    without = [written(web) for web in webs if tie not in web[1]]
    rows = ["\n".join(("some",) + two) for two in itertools.product(with_it, without)]
    rows += ["all " + row for row in wall_rows(both_moved(tally, pair, 1))]
    return rows + ["none " + row for row in wall_rows(both_moved(tally, pair, -1))]


def right_pieces(tally):
    webs = webs_of(tally)
    if not webs:
        return ["refused"]
    fewest = min(len(walked_pieces(web)) for web in webs)
    return [f"pieces {fewest}\n" + written(web) for web in webs if len(walked_pieces(web)) == fewest]


def right_offs(tally):
    if min(tally) < 0:
        return ["refused"]
    webs = [web for web in all_webs(len(tally)) if all(many <= one for many, one in zip(counted(web), tally))]
    much = min(sum(tally) - sum(counted(web)) for web in webs)
    wants = [-room_by_the_words(tally, r) for r in range(len(tally) + 1)]
    shown = [r for r, want in enumerate(wants) if want + (want + sum(tally)) % 2 == much]
    fullest = [written(web) for web in webs if sum(tally) - sum(counted(web)) == much]
    return [f"off {much} {r}\n{row}" for r in shown for row in fullest]


def right(kind, tally, pair=()):
    """Every answer that stands, told by going through all webs."""
    if kind == "web":
        return [written(web) for web in webs_of(tally)] or wall_rows(tally)
    if kind == "pair":
        return right_pairs(tally, pair)
    return right_pieces(tally) if kind == "pieces" else right_offs(tally)


def small_questions():
    """Kind, tally and pair."""
    for places in range(1, 4):
        for tally in itertools.product(range(-1, places + 1), repeat=places):
            for kind in ("web", "pieces", "off"):
                yield kind, tally, ()
            for pair in itertools.product(range(-1, places + 1), repeat=2):
                yield "pair", tally, pair
    for tally in list(itertools.product(range(-1, 5), repeat=4))[::13]:
        for kind in ("web", "pieces", "off"):
            yield kind, tally, ()
        for pair in ((0, 1), (3, 1), (2, 2), (4, 0)):
            yield "pair", tally, pair


class Answer(unittest.TestCase):
    def test_webs_by_hand(self):
        self.assertEqual(answer("web 0"), "web")
        self.assertEqual(answer("web 0 0 0"), "web")
        self.assertEqual(answer("web 1 1"), "web 0-1")
        self.assertEqual(answer("web 1 2 1"), "web 0-1 1-2")
        self.assertEqual(answer("web 1"), "odd")
        self.assertEqual(answer("web 2"), "wall 1")
        self.assertEqual(answer("web 3 3 1 1"), "wall 2")
        self.assertEqual(answer("web 1 -1"), "below 1")
        self.assertEqual(answer("web -7 -1"), "below 0")
        self.assertIn(answer("web 1 1 1 1"), ("web 0-1 2-3", "web 0-2 1-3", "web 0-3 1-2"))

    def test_pairs_by_hand(self):
        self.assertEqual(answer("pair 0 1 1 1"), "all wall 1")
        self.assertEqual(answer("pair 1 0 1 2 1"), "all wall 1")
        self.assertEqual(answer("pair 0 1 0 0"), "none below 0")
        self.assertEqual(answer("pair 2 0 1 2 1"), "none wall 1")
        told = answer("pair 0 3 1 1 1 1")
        self.assertIn(told, ("some\nweb 0-3 1-2\nweb 0-1 2-3", "some\nweb 0-3 1-2\nweb 0-2 1-3"))

    def test_pieces_by_hand(self):
        self.assertEqual(answer("pieces 0"), "pieces 1\nweb")
        self.assertEqual(answer("pieces 0 0"), "pieces 2\nweb")
        self.assertEqual(answer("pieces 1 2 1"), "pieces 1\nweb 0-1 1-2")
        self.assertEqual(answer("pieces 1 0 1"), "pieces 2\nweb 0-2")
        self.assertEqual(answer("pieces 2 2 2 0"), "pieces 2\nweb 0-1 0-2 1-2")

    def test_off_by_hand(self):
        self.assertEqual(answer("off 0"), "off 0 0\nweb")
        self.assertEqual(answer("off 5"), "off 5 1\nweb")
        self.assertEqual(answer("off 1 1"), "off 0 0\nweb 0-1")
        self.assertEqual(answer("off 3 1"), "off 2 1\nweb 0-1")
        self.assertEqual(answer("off 3 3 3"), "off 3 3\nweb 0-1 0-2 1-2")
        self.assertEqual(answer(f"off {FIFTY} 1 0"), f"off {FIFTY - 1} 1\nweb 0-1")
        self.assertEqual(answer(f"off {FIFTY} {FIFTY}"), f"off {2 * FIFTY - 2} 2\nweb 0-1")

    def test_every_small_question(self):
        for kind, tally, pair in small_questions():
            question = asked(kind, tally, pair)
            told = answer(question)
            self.assertIs(type(told), str)
            self.assertIn(told, right(kind, tally, pair), question)
            self.assertIs(judged(question, told), True, question)
            self.assertEqual(answer(question), told)

    def test_the_told_walls(self):
        for kind, tally, pair in small_questions():
            told = answer(asked(kind, tally, pair))
            if kind == "web" and not told.startswith("web"):
                self.assertEqual(told, " ".join(str(part) for part in told_wall(tally)))
            if kind == "pair" and told.startswith(("all", "none")):
                moved = both_moved(tally, pair, 1 if told.startswith("all") else -1)
                self.assertEqual(told.partition(" ")[2], " ".join(str(part) for part in told_wall(moved)))

    def test_the_least_r_with_the_least_room(self):
        for tally in itertools.product(range(4), repeat=3):
            rooms = [room_by_the_words(tally, r) for r in range(4)]
            first = answer(asked("off", tally)).split("\n")[0]
            self.assertEqual(first.split(" ")[2], str(rooms.index(min(rooms))))

    def test_as_the_functions_tell_of_great_tallies(self):
        for web in list(great_webs())[::2] + [round_web(24, 1, 7)]:
            tally = counted(web)
            self.assertEqual(answer(asked("web", tally)), written(answered(tally)[1]))
            fewest, laid = fewest_pieces(tally)
            self.assertEqual(answer(asked("pieces", tally)), f"pieces {fewest}\n{written(laid)}")
            more = list(tally)
            more[3] += 9
            much, fullest, r = least_off(more)
            self.assertEqual(answer(asked("off", more)), f"off {much} {r}\n{written(fullest)}")
            pair = (web[0] - 1, web[0] // 3)
            told = pair_told(tally, *pair)
            rows = [written(one) for one in told[1:]] if told[0] == "some" else [f"{told[1][0]} {told[1][1]}"]
            between = "\n" if told[0] == "some" else " "
            self.assertEqual(answer(asked("pair", tally, pair)), between.join([told[0]] + rows))

    def test_great_walls(self):
        self.assertEqual(answer("web" + " 24" * 24), "wall 1")
        self.assertEqual(answer("web" + " 1" * 23), "odd")
        self.assertEqual(answer("web" + " 23" * 23 + " -1"), "below 23")
        self.assertEqual(answer("pair 23 0" + " 23" * 24), "all wall 1")
        self.assertEqual(answer("pair 23 10" + " 0" * 24), "none below 10")
        self.assertEqual(answer(f"web {FIFTY} -{FIFTY}"), "below 1")
        self.assertEqual(answer(f"web {FIFTY} {FIFTY}"), "wall 1")

    def test_fifty_figures_and_no_more(self):
        for number in (10 ** 50, 10 ** 51, 10 ** 59):
            for question in (f"web {number}", f"web 1 -{number}", f"off {number} 1", f"pair 0 {number} 1 1",
                             f"pieces {number} {number}", f"web 1 1 {number}"):
                self.assertEqual(answer(question), "refused", question)
        for number in (FIFTY, 10 ** 49, 10 ** 49 + 1):
            self.assertEqual(answer(f"web {number}"), "odd" if number % 2 else "wall 1")
            self.assertEqual(answer(f"web 1 -{number}"), "below 1")
            self.assertEqual(answer(f"off {number}"), f"off {number} 1\nweb")
        self.assertEqual(answer("off" + f" {FIFTY}" * 24).split("\n")[0], f"off {24 * (FIFTY - 23)} 24")

    def test_refused(self):
        for question in NO_QUESTIONS + REFUSED_BY_FUNCTIONS:
            with self.subTest(question=question[:80]):
                self.assertEqual(answer(question), "refused")

    def test_24_numbers_and_no_more(self):
        for kind in ("web", "pieces", "off"):
            self.assertNotEqual(answer(kind + " 0" * 24), "refused")
            self.assertEqual(answer(kind + " 0" * 25), "refused")
        self.assertNotEqual(answer("pair 0 1" + " 0" * 24), "refused")
        self.assertEqual(answer("pair 0 1" + " 0" * 25), "refused")

    def test_a_sign_changed_in_a_question(self):
        for question in ("web 1 1", "pair 0 1 1 1", "pieces 2 2 2", "off 3 1"):
            for place, sign in itertools.product(range(len(question)), SIGNS):
                changed = question[:place] + sign + question[place + 1:]
                told = answer(changed)
                self.assertIs(judged(changed, told), True)
                words = changed.split(" ")
                numbers = all(re.fullmatch("0|-?[1-9][0-9]*", word) for word in words[1:])
                if words[0] not in ("web", "pair", "pieces", "off") or not numbers:
                    self.assertEqual(told, "refused", changed)

    def test_long_texts(self):
        for question in LONG:
            self.assertEqual(answer(question), "refused")


class Judged(unittest.TestCase):
    def test_every_right_answer_and_no_other_of_small_questions(self):
        texts = set()
        questions = list(small_questions())
        held = [set(right(kind, tally, pair)) for kind, tally, pair in questions]
        for answers in held:
            texts |= set(sorted(answers)[:2])
        for (kind, tally, pair), answers in list(zip(questions, held))[::3]:
            question = asked(kind, tally, pair)
            for told in sorted(answers)[:60]:
                self.assertIs(judged(question, told), True, (question, told))
            for told in sorted(texts)[::4]:
                self.assertIs(judged(question, told), told in answers, (question, told))

    def assert_judged(self, question, answers, told):
        self.assertIs(judged(question, told), told in answers, (question, told))

    def test_one_sign_changed_put_in_or_left_out(self):
        asked_of = (
            ("web", (1, 2, 1), ()), ("web", (1, 1, 1, 1), ()), ("web", (3, 3, 1, 1), ()), ("web", (-1, 0, -2), ()),
            ("web", (0,), ()), ("web", (5, 5, 5), ()), ("pair", (1, 1, 1, 1), (0, 3)), ("pair", (1, 2, 1), (0, 1)),
            ("pair", (0, 0, 2, 1, 1), (1, 0)), ("pieces", (1, 1, 1, 1), ()), ("pieces", (2, 2, 2, 0), ()),
            ("pieces", (2, 1, 2, 1), ()), ("off", (3, 3, 1, 1), ()), ("off", (1, 1, 1), ()), ("off", (0, 0), ()),
            ("off", (4, 2, 2, 2), ()), ("off", (-1, 1), ()), ("pair", (1, 1), (0, 0)),
        )
        for kind, tally, pair in asked_of:
            question = asked(kind, tally, pair)
            answers = set(right(kind, tally, pair))
            for told in sorted(answers)[:2] + sorted(answers)[-1:]:
                for place in range(len(told) + 1):
                    self.assert_judged(question, answers, told[:place] + told[place + 1:])
                    for sign in SIGNS:
                        self.assert_judged(question, answers, told[:place] + sign + told[place + 1:])
                        self.assert_judged(question, answers, told[:place] + sign + told[place:])

    def test_rows_left_out_told_twice_or_put_elsewhere(self):
        for kind, tally, pair in (
            ("web", (1, 1, 1, 1), ()), ("web", (3, 3, 1, 1), ()), ("pair", (1, 1, 1, 1), (1, 3)),
            ("pair", (1, 1), (0, 1)), ("pieces", (2, 2, 2), ()), ("pieces", (0, 1, 1), ()), ("off", (5, 1, 1), ()),
            ("off", (0,), ()),
        ):
            question = asked(kind, tally, pair)
            answers = set(right(kind, tally, pair))
            rows = answer(question).split("\n")
            for many in range(5):
                for order in itertools.product(rows + ["", "web", "refused"], repeat=many):
                    self.assert_judged(question, answers, "\n".join(order))
            for order in itertools.permutations(rows):
                self.assert_judged(question, answers, "\n".join(order))

    def test_a_line_end_or_a_blank_at_an_edge(self):
        for kind, tally, pair in list(small_questions())[::29]:
            question = asked(kind, tally, pair)
            told = answer(question)
            for other in (told + "\n", "\n" + told, told + " ", " " + told, told + "\n\n", told.upper(), told + told,
                          told + "\n" + told, told.replace("\n", "\n\n"), told.replace("\n", " \n")):
                if other != told:
                    self.assertIs(judged(question, other), False, (question, other))

    def test_any_right_web_of_great_tallies(self):
        for web in list(great_webs())[::3]:
            tally = counted(web)
            self.assertIs(judged(asked("web", tally), written(web)), True)
            pieces = len(walked_pieces(web))
            fewest = fewest_pieces(tally)[0]
            for many in (fewest - 1, fewest, fewest + 1, pieces):
                told = f"pieces {many}\n{written(web)}"
                self.assertIs(judged(asked("pieces", tally), told), many == fewest == pieces)
            self.assertIs(judged(asked("off", tally), f"off 0 0\n{written(web)}"), True)
            self.assertIs(judged(asked("off", tally), f"off 1 0\n{written(web)}"), False)
            if web[1]:
                fewer = written((web[0], web[1][1:]))
                self.assertIs(judged(asked("web", tally), fewer), False)
                self.assertIs(judged(asked("off", tally), f"off 0 0\n{fewer}"), False)
                self.assertIs(judged(asked("off", tally), f"off 2 0\n{fewer}"), False)
                self.assertIs(judged(asked("web", tally), written((web[0], web[1] + web[1][:1]))), False)

    def test_answers_of_great_tallies(self):
        for web in list(great_webs())[::4]:
            tally = list(counted(web))
            tally[0] += 3
            for question in [asked(kind, tally) for kind in ("web", "pieces", "off")] + [
                asked("pair", counted(web), pair) for pair in all_pairs(web[0])[::17]
            ]:
                told = answer(question)
                self.assertIs(judged(question, told), True)
                self.assertIs(judged(question, told + "\nweb"), False)
                self.assertIs(judged(question, "refused"), told == "refused")

    def test_a_pair_told_of_great_tallies(self):
        whole = (24, tuple(all_pairs(24)))
        ring = round_web(24, 1)
        # The places turned about: 0 and 1 are tied in the one ring, not in the other.
        turned = (24, tuple(sorted(tuple(sorted((5 * one % 24, 5 * other % 24))) for one, other in ring[1])))
        question = asked("pair", counted(ring), (1, 0))
        self.assertIs(judged(question, "\n".join(["some", written(ring), written(turned)])), True)
        self.assertIs(judged(question, "\n".join(["some", written(turned), written(ring)])), False)
        self.assertIs(judged(question, "\n".join(["some", written(ring), written(ring)])), False)
        self.assertIs(judged(question, "\n".join(["some", written(ring)])), False)
        self.assertIs(judged(question, "\n".join(["some", written(ring), written(turned), written(turned)])), False)
        for r in range(-1, 26):
            right_wall = 1 <= r <= 24 and room_by_the_words([24, 24] + [23] * 22, r) < 0
            self.assertIs(judged(asked("pair", counted(whole), (0, 1)), f"all wall {r}"), right_wall)
            self.assertIs(judged(asked("pair", counted(whole), (0, 1)), f"none wall {r}"), False)

    def test_any_right_wall(self):
        tally = (9, 9, 9, -1, -1)
        for row in ("odd", "below 3", "below 4", "wall 1", "wall 2", "wall 3", "wall 4", "wall 5"):
            self.assertIs(judged(asked("web", tally), row), True)
        for row in ("below 0", "below 5", "below -1", "wall 0", "wall 6", "wall -1", "below", "wall", "odd 1", "odd 0",
                    "below 03", "below +3", "below 3 4", "wall 01", "wall 1 ", "wall  1", "Odd", "wall odd",
                    "below odd", "wall 1\nwall 2", "web", "web 0-1", "wall1", "belows 3", "below3", "walls 1",
                    "refused", "", "wall " + "1" * 60, "wall " + "1" * 61, "below -" + "9" * 60, "all wall 1",
                    "none odd"):
            self.assertIs(judged(asked("web", tally), row), False, row)

    def test_numbers_of_fifty_and_sixty_figures(self):
        question = f"off {FIFTY} 1 0"
        self.assertIs(judged(question, f"off {FIFTY - 1} 1\nweb 0-1"), True)
        for much in (FIFTY, FIFTY - 2, FIFTY - 3, FIFTY + 1, -FIFTY, 10 ** 60 - 1, 10 ** 60, 0, 1):
            self.assertIs(judged(question, f"off {much} 1\nweb 0-1"), False)
        # At 1 there is 1, less the first number; at 2 there are 2, less the first number and 1: the same is wanting.
        for r in (0, 1, 2, 3, 4, -1, FIFTY, 10 ** 60 - 1, 10 ** 61):
            self.assertIs(judged(question, f"off {FIFTY - 1} {r}\nweb 0-1"), r in (1, 2))
        for web in ("web", "web 0-2", "web 1-2", "web 0-1 0-2", "web 0-1 1-2", "web 0-3"):
            self.assertIs(judged(question, f"off {FIFTY - 1} 1\n{web}"), False)
        much = 24 * (FIFTY - 23)
        whole = written((24, tuple(all_pairs(24))))
        for r in range(-1, 27):
            self.assertIs(judged("off" + f" {FIFTY}" * 24, f"off {much} {r}\n{whole}"), r == 24)

    def test_refused_just_where_it_is_the_answer(self):
        for question in NO_QUESTIONS + REFUSED_BY_FUNCTIONS + LONG:
            with self.subTest(question=question[:80]):
                self.assertIs(judged(question, "refused"), True)
                for told in ("", "web", "odd", "web 0-1", "wall 1", "below 0", "all wall 1", "none below 0",
                             "pieces 1\nweb", "off 0 0\nweb", "refused\n", "Refused", " refused", "refused ",
                             "some\nweb\nweb", "pieces 1\nweb 0-1", "off 0 0\nweb 0-1", "some\nweb 0-1\nweb"):
                    self.assertIs(judged(question, told), False, told)
        for kind, tally, pair in list(small_questions())[::5]:
            question = asked(kind, tally, pair)
            self.assertIs(judged(question, "refused"), right(kind, tally, pair) == ["refused"])

    def test_no_text_is_refused(self):
        questions = ["web 1 1", "web 0", "web 1", "pair 0 1 1 1", "pieces 0", "off 3 1", "nothing", "", "off -1"]
        for question, told in itertools.product(questions + list(LONG), NO_QUESTIONS + LONG):
            known = {"web 0": ["web"], "web 1": ["odd", "wall 1"], "web 1 1": ["web 0-1"]}.get(question, [])
            no_question = question in LONG or question in ("nothing", "", "off -1")
            expected = told in known or (no_question and told == "refused")
            self.assertIs(judged(question, told), expected, (question[:80], told[:80]))

    def test_webs_of_another_tally_or_number_of_places(self):
        for web in list(all_webs(4))[::3]:
            for tally in itertools.product(range(3), repeat=4):
                self.assertIs(judged(asked("web", tally), written(web)), counted(web) == tally)
        self.assertIs(judged("web 0 1 1", "web 1-2"), True)
        self.assertIs(judged("web 1 1", "web 1-2"), False)
        self.assertIs(judged("web 1 1", "web 0-1 2-3"), False)

    def test_the_number_of_pieces(self):
        question = "pieces 1 1 2 2 2"
        self.assertIs(judged(question, "pieces 1\nweb 0-2 1-3 2-4 3-4"), True)
        # A web of it in two pieces, with either number.
        for many in (0, 1, 2, 3, -1):
            self.assertIs(judged(question, f"pieces {many}\nweb 0-1 2-3 2-4 3-4"), False)
            self.assertIs(judged(question, f"pieces {many}\nweb 0-2 1-3 2-4 3-4"), many == 1)


class WebsToldAreWritten(unittest.TestCase):
    def test_each_web_row_can_be_read_again(self):
        for web in list(great_webs())[::5]:
            for kind in ("web", "pieces", "off"):
                row = answer(asked(kind, counted(web))).split("\n")[-1]
                self.assertEqual(counted(web_in(row, web[0])), counted(web))


if __name__ == "__main__":
    unittest.main()
