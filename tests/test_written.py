"""Point [26] and the interface of tallyweb/written.py."""

import itertools
import re
import unittest

from small import all_pairs, all_webs, great_webs, round_web, written
from tallyweb.errors import NoText
from tallyweb.written import number_in, tie_in, web_in, web_text

FIFTY = "7" * 50
SIXTY = "9" * 60
SIGNS = [chr(code) for code in range(32, 127)] + ["\n"]
NO_NUMBERS = (
    "", " ", "-", "--", "-0", "--0", "+0", "+1", "-+1", "+-1", "00", "01", "007", "-01", "-00", "0-", "1-", "1-2",
    "--1", " 1", "1 ", " 1 ", "1 2", "- 1", "-1 ", " -1", "\n", "1\n", "\n1", "-1\n", "1\n2", "1.0", "1.", ".1", "1e3",
    "1_000", "1,000", "0x1", "0b1", "0o1", "1j", "x", "one", "I", "A", "1a", "a1", "1\t", "\t1", "nought", "\u0663",
    "\u00b2", "\uff11", "-\u0663", "1\u0663", "9" * 61, "-" + "9" * 61, "1" + "0" * 60, "0" + SIXTY, "0" * 60, "9" * 70,
    "9" * 5000, "-" + "9" * 5000, "1" * 20000, "0" * 61, "+" + SIXTY, SIXTY + " ", SIXTY + "\n", "()", "[]", "1L",
    "\\1", "'1'", "\u22121",
)
NO_TIES = (
    "", " ", "-", "0", "1", "10", "--", "0-", "-0", "-1", "0-0", "1-1", "12-12", "99-99", "1-0", "3-0", "10-9", "23-2",
    "00-1", "0-01", "01-2", "0-03", "00-01", "-1-3", "0--3", "-3--1", "-3-1", "-0-1", "0--0", "1--2", "0-1-", "-0-1",
    "0-1-2", "0--1", "0 -1", "0- 1", " 0-1", "0-1 ", "0 - 1", "0-1\n", "\n0-1", "0\n-1", "0-\n1", "0-100", "100-101",
    "1-999", "100-1", "0-+1", "+0-1", "0-1a", "a-b", "0-x", "x-1", "0_1", "0,1", "0:1", "01", "0\u20131", "0-\u0663",
    "\u0660-1", "0-1.0", "0.0-1", "(0-1)", "0-1,", "0-1 0-2", "0-" + "9" * 60, "1" * 60 + "-" + "2" * 60,
    "0-" + "1" * 9000, "0-" * 5000, "-" * 20000,
)
ROWS_OF_NONE = (
    "", " ", "web ", " web", "web  ", "web 0-1 ", " web 0-1", "web  0-1", "web 0-1  0-2", "web 0-1  ", "web\n", "\nweb",
    "web 0-1\n", "web\n0-1", "web 0-1\n0-2", "web 0-1\nweb", "Web", "WEB", "Web 0-1", "wEb 0-1", "webs", "webs 0-1",
    "we", "we 0-1", "web0-1", "web-", "0-1", "0-1 web", "web web", "web web 0-1", "wall 1", "odd", "below 0", "web odd",
    "refused", "tie 0-1", "web 1-0", "web 0-1 2-0", "web 0-2 0-1", "web 1-2 0-3", "web 2-3 0-1", "web 0-1 0-1",
    "web 0-1 0-2 0-2", "web 0-1 1-0", "web 0-0", "web 0-1 1-1", "web 3-3", "web 0-4", "web 0-5", "web 4-5", "web 3-4",
    "web 0-99", "web 98-99", "web 0-1 0-4", "web 0-100", "web -1-0", "web 0--1", "web 0", "web 0 1", "web 0-", "web -",
    "web -1", "web 0-1-2", "web 00-1", "web 0-01", "web 01", "web 0-1,", "web 0-1,0-2", "web: 0-1", "web\t0-1",
    "web 0-1\t0-2", "web +0-1", "web x", "web 0-1 x", "web 0-x", "web" + " " * 10000, "web" + " 0-1" * 4999,
    "x" * 20000, "web 0-1" + "\n" * 5000, "web 0-" + "1" * 19000,
)


class NumberIn(unittest.TestCase):
    def assert_no_number(self, word):
        with self.subTest(word=word[:80]), self.assertRaises(NoText):
            number_in(word)

    def test_by_hand(self):
        for word, number in (("0", 0), ("7", 7), ("-7", -7), ("10", 10), ("-10", -10), ("907", 907), ("-1", -1)):
            self.assertEqual(number_in(word), number)
            self.assertIs(type(number_in(word)), int)

    def test_there_and_back(self):
        for number in list(range(-1100, 1101)) + [10 ** k + more for k in range(1, 60) for more in (-1, 0, 1)]:
            self.assertEqual(number_in(str(number)), number)
            if number:
                self.assertEqual(number_in(str(-number)), -number)

    def test_sixty_figures_and_no_more(self):
        for figures in (SIXTY, FIFTY, "1" + "0" * 59, "1234567890" * 6, "1" * 51):
            self.assertEqual(number_in(figures), int(figures))
            self.assertEqual(number_in("-" + figures), -int(figures))
        for figures in range(61, 70):
            self.assert_no_number("1" * figures)
            self.assert_no_number("-" + "1" * figures)

    def test_words_that_write_none(self):
        for word in NO_NUMBERS:
            self.assert_no_number(word)

    def test_all_short_words(self):
        words = ["".join(signs) for many in range(4) for signs in itertools.product("0-+19 \n.", repeat=many)]
        for word in words + SIGNS + [one + "5" for one in SIGNS] + ["5" + one for one in SIGNS]:
            if re.fullmatch("0|-?[1-9][0-9]*", word) and not word.endswith("\n"):
                self.assertEqual(number_in(word), int(word))
            else:
                self.assert_no_number(word)


class TieIn(unittest.TestCase):
    def test_every_tie(self):
        for one, other in all_pairs(100):
            told = tie_in(f"{one}-{other}")
            self.assertEqual(told, (one, other))
        self.assertIs(type(tie_in("0-3")), tuple)
        self.assertEqual([type(end) for end in tie_in("9-10")], [int, int])

    def test_turned_about_or_both_the_same(self):
        for one, other in itertools.product(range(30), repeat=2):
            if one >= other:
                with self.assertRaises(NoText):
                    tie_in(f"{one}-{other}")

    def test_words_that_write_none(self):
        for word in NO_TIES:
            with self.subTest(word=word[:80]), self.assertRaises(NoText):
                tie_in(word)

    def test_all_short_words(self):
        words = ["".join(signs) for many in range(6) for signs in itertools.product("0-12 ", repeat=many)]
        for word in words:
            parts = re.fullmatch("(0|[1-9][0-9]?)-(0|[1-9][0-9]?)", word)
            if parts and int(parts[1]) < int(parts[2]):
                self.assertEqual(tie_in(word), (int(parts[1]), int(parts[2])))
            else:
                with self.assertRaises(NoText):
                    tie_in(word)

    def test_one_sign_changed(self):
        for place, sign in itertools.product(range(5), SIGNS):
            word = "12-15"[:place] + sign + "12-15"[place + 1:]
            parts = re.fullmatch("([1-9][0-9])-([1-9][0-9])", word)
            if parts and int(parts[1]) < int(parts[2]):
                self.assertEqual(tie_in(word), (int(parts[1]), int(parts[2])))
            else:
                with self.subTest(word=word), self.assertRaises(NoText):
                    tie_in(word)


class WebText(unittest.TestCase):
    def test_by_hand(self):
        self.assertEqual(web_text((1, ())), "web")
        self.assertEqual(web_text((24, ())), "web")
        self.assertEqual(web_text((2, ((0, 1),))), "web 0-1")
        self.assertEqual(web_text((12, ((0, 1), (0, 11), (9, 10)))), "web 0-1 0-11 9-10")

    def test_there_and_back(self):
        webs = [web for places in range(1, 6) for web in all_webs(places)] + list(all_webs(6))[::41]
        webs += list(great_webs()) + [round_web(24, 1, 2, 3), (24, tuple(all_pairs(24)))]
        for web in webs:
            self.assertEqual(web_text(web), written(web))
            self.assertIs(type(web_text(web)), str)
            self.assertEqual(web_in(written(web), web[0]), web)


class WebIn(unittest.TestCase):
    def test_by_hand(self):
        for places in range(1, 25):
            self.assertEqual(web_in("web", places), (places, ()))
        self.assertEqual(web_in("web 0-1", 2), (2, ((0, 1),)))
        self.assertEqual(web_in("web 0-1", 24), (24, ((0, 1),)))
        self.assertEqual(web_in("web 2-10 9-23", 24), (24, ((2, 10), (9, 23))))

    def test_rows_that_write_none(self):
        for row in ROWS_OF_NONE:
            with self.subTest(row=row[:80]), self.assertRaises(NoText):
                web_in(row, 4)

    def test_a_place_that_is_none(self):
        for places in range(1, 25):
            for one, other in ((0, places), (places - 1, places), (0, places + 1), (places, places + 1)):
                with self.assertRaises(NoText):
                    web_in(f"web {one}-{other}", places)
            if places > 1:
                self.assertEqual(web_in(f"web 0-{places - 1}", places), (places, ((0, places - 1),)))

    def test_ascending_as_numbers_are(self):
        self.assertEqual(web_in("web 0-2 0-10", 11), (11, ((0, 2), (0, 10))))
        self.assertEqual(web_in("web 2-3 10-11", 12), (12, ((2, 3), (10, 11))))
        for row in ("web 0-10 0-2", "web 10-11 2-3"):
            with self.assertRaises(NoText):
                web_in(row, 12)

    def test_all_orders_of_some_ties(self):
        ties = ["0-1", "0-2", "1-3", "2-3"]
        for order in itertools.permutations(ties):
            row = "web " + " ".join(order)
            if list(order) == ties:
                self.assertEqual(web_in(row, 4), (4, ((0, 1), (0, 2), (1, 3), (2, 3))))
            else:
                with self.assertRaises(NoText):
                    web_in(row, 4)

    def test_one_sign_changed_put_in_or_left_out(self):
        row = "web 0-1 1-3"
        right = {written(web): web for web in all_webs(4)}
        signs = ["", "\t"] + SIGNS
        changed = [row[:place] + sign + row[place + 1:] for place in range(len(row)) for sign in signs]
        changed += [row[:place] + sign + row[place:] for place in range(len(row) + 1) for sign in signs]
        for text in changed:
            if text in right:
                self.assertEqual(web_in(text, 4), right[text])
            else:
                with self.subTest(text=text), self.assertRaises(NoText):
                    web_in(text, 4)


if __name__ == "__main__":
    unittest.main()
