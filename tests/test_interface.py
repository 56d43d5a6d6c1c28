"""Every name of the interface is there, with its arguments as they are told."""

import importlib
import inspect
import unittest

INTERFACE = {
    "webs": ("made(places, ties)", "tally_of(web)", "tied(web, one, other)", "other_web(web)"),
    "tallies": ("order_of(tally)", "moved(tally, place, more)"),
    "walls": ("room(tally, r)", "wall_of(tally)", "wall_shows(tally, wall)"),
    "laying": ("left_by(tally, place)", "answered(tally)", "answer_shows(tally, told)"),
    "exchanges": ("can_exchange(web, four)", "exchanged(web, four)", "exchanges_of(web)", "led(one, two)"),
    "pairs": (
        "pair_told(tally, one, other)", "pair_shows(tally, one, other, told)", "always(tally)", "never(tally)",
    ),
    "pieces": ("pieces_of(web)", "in_ring(web, one, other)", "fewest_pieces(tally)", "tree_of(tally)"),
    "seen": ("parted(tally)", "growth(tally)", "grown(steps)"),
    "tables": (
        "sums_of(table)", "wall_of_sums(rows, columns)", "wall_shows_sums(rows, columns, wall)",
        "table_of(rows, columns)", "swapped(table, four)", "swaps_led(one, two)",
        "cell_told(rows, columns, row, column)",
    ),
    "thick": (
        "thick_room(tally, most, r)", "thick_answered(tally, most)", "thick_shows(tally, most, told)",
        "least_most(tally)",
    ),
    "least": ("least_off(tally)", "least_on(tally)", "off_shows(tally, told)"),
    "counting": ("how_many(tally)", "web_at(tally, number)", "number_of(web)", "in_how_many(tally, one, other)"),
    "written": ("number_in(word)", "tie_in(word)", "web_text(web)", "web_in(row, places)"),
    "desk": ("answer(question)", "judged(question, told)"),
}


class Interface(unittest.TestCase):
    def test_names_and_arguments(self):
        for module, rows in INTERFACE.items():
            held = importlib.import_module("tallyweb." + module)
            for row in rows:
                with self.subTest(module=module, row=row):
                    name = row.partition("(")[0]
                    self.assertEqual(name + str(inspect.signature(getattr(held, name))), row)


if __name__ == "__main__":
    unittest.main()
