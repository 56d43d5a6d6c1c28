"""The package keeps to the part of Python that it is written in, as far as that can be seen by its files."""

import pathlib
import re
import unittest

from language import defined_at_top, drawn_from, faults_of

PACKAGE = pathlib.Path(__file__).resolve().parent.parent / "tallyweb"

OUTSIDE = (
    "import os\n",
    "from os import path\n",
    "from tallyweb.errors import *\n",
    "from .errors import BadWeb\n",
    "def f(*xs):\n    return xs\n",
    "def f():\n    return 1 / 2\n",
    "def f():\n    return 1.5\n",
    "def f(xs):\n    return {x for x in xs}\n",
    "def f(xs):\n    return sum(x for x in xs)\n",
    "def f(xs):\n    return [x for ys in xs for x in ys]\n",
    "def f(xs):\n    assert xs\n",
    "def f(xs):\n    with xs:\n        pass\n",
    "def f(xs):\n    xs.sort()\n",
    "def f(xs):\n    return getattr(xs, 'a')\n",
    "def f(xs):\n    return map(len, xs)\n",
    "def f(x, y):\n    return x is y\n",
    "def f(x):\n    return x is 1\n",
    "def f(n):\n    return 2 ** n\n",
    "def f(id):\n    return id\n",
    "def f(_x):\n    return 1\n",
    "def f(x):\n    a = b = x\n    return a + b\n",
    "def f(x):\n    try:\n        return x\n    except:\n        return 1\n",
    "def f(x):\n    try:\n        return x\n    finally:\n        pass\n",
    "def f(x):\n    return 1 # the type of x\n",
    "def f(x):\n    return f'{x + 1}'\n",
    "def f(x):\n    print(x)\n",
    "from tallyweb.walls import room\ndef f(room):\n    return room\n",
    "from tallyweb.walls import room\ndef f(x):\n    room = x\n    return room\n",
    "class C:\n    pass\ndef f(x):\n    return [C for C in x]\n",
    "def f(n):\n    xs = range(n)\n    return xs\n",
    "def f(n):\n    return max(range(n), key=lambda x: -x)\n",
    "def f(xs):\n    return reversed(xs)\n",
    "def f(d):\n    return d.items()\n",
    "def f(xs):\n    ys = set(xs)\n    return 1 in ys\n",
    "def f(xs):\n    return [x for x in set(xs)]\n",
    "def f(xs, ys):\n    return list(set(xs) - set(ys))\n",
    "def f(xs):\n    return sorted(set(xs), reverse=True)\n",
    "def f(xs):\n    return tuple(sequence=xs)\n",
    "def f(xs):\n    for x in xs:\n        xs.append(x)\n",
    "class C:\n    value = 1\n",
    "A = 1\nA = 2\n",
    "if True:\n    A = 1\n",
    "A = '\u00e9'\n",
    "A = 1" + " " * 120 + "\n",
    "def f():\n" + "    pass\n" * 40,
    "A = 1\n" + "\n" * 400,
)

INSIDE = '''"""A module."""

from tallyweb.errors import BadWeb

MOST = 10 ** 6


class Row:
    def __init__(self, cells):
        self.cells = list(cells)

    def turned(self):
        return [1 - cell for cell in self.cells]


def total(row, most=MOST):
    many = 0
    for k, cell in enumerate(row.turned()):
        many += cell * k if cell is not None else 0
    if not 0 <= many <= most or len(set(row.cells)) > 2:
        raise BadWeb(f"there are {many}")
    return sorted(range(many), key=lambda one: (-one, one))


def unlike(xs, ys):
    if set(xs) == set(ys) or 3 in set(xs) | set(ys):
        return []
    return sorted(set(xs) - set(ys)) + list(reversed(ys)) + [max(range(4))]
'''


def files():
    return sorted(path for path in PACKAGE.iterdir() if path.name != "__pycache__")


def texts():
    """The text of each file by the name that it is imported under."""
    return {"tallyweb." + path.stem: path.read_text(encoding="utf-8") for path in files()}


class Language(unittest.TestCase):
    def test_the_folder_holds_plain_files_alone(self):
        self.assertIn("__init__.py", [path.name for path in files()])
        for path in files():
            with self.subTest(path=path.name):
                self.assertTrue(path.is_file())
                self.assertTrue(re.fullmatch(r"__init__\.py|__main__\.py|[a-z][a-z0-9_]*\.py", path.name))

    def test_each_file_keeps_to_the_rules(self):
        for name, text in texts().items():
            with self.subTest(name=name):
                self.assertEqual(faults_of(text, "tallyweb"), [])

    def test_names_are_drawn_from_the_file_that_defines_them(self):
        held = texts()
        for name, text in held.items():
            for module, names in drawn_from(text):
                with self.subTest(name=name, module=module):
                    self.assertIn(module, held)
                    self.assertEqual([one for one in names if one not in defined_at_top(held[module])], [])

    def test_no_two_files_draw_from_one_another(self):
        left = {name: [module for module, names in drawn_from(text)] for name, text in texts().items()}
        free = True
        while free:
            free = [name for name in left if not [module for module in left[name] if module in left]]
            for name in free:
                del left[name]
        self.assertEqual(left, {})

    def test_code_outside_the_rules_is_seen(self):
        for text in OUTSIDE:
            with self.subTest(text=text[:80]):
                self.assertNotEqual(faults_of(text, "tallyweb"), [])

    def test_code_inside_the_rules_passes(self):
        self.assertEqual(faults_of(INSIDE, "tallyweb"), [])


if __name__ == "__main__":
    unittest.main()
