"""Points [17] to [20] and the interface of tallyweb/tables.py."""

import itertools
import unittest

from small import SIXTY
from tallyweb.errors import BadTally, NoExchange, NoPlace, NoWeb, Unlike
from tallyweb.tables import cell_told, sums_of, swapped, swaps_led, table_of, wall_of_sums, wall_shows_sums

SHAPES = ((1, 1), (1, 2), (2, 1), (2, 2), (1, 4), (4, 1), (2, 3), (3, 2), (3, 3))
NOT_SUMS = ([], (), [0] * 17, (0,) * 17, [1] * 24, list(range(30)), [-1] * 17, (SIXTY,) * 1000)
WITHOUT_TABLE = (
    ([1], [0]), ([2], [2]), ([-1], [-1]), ([2, 0], [1, 0]), ([3, 0, 0], (1, 2, 0)), ((0, -1, 1), (0, 0, 0)),
    ([SIXTY], [SIXTY]), ([-SIXTY], [-SIXTY]), ([17] * 16, [17] * 16), ([1] * 16, [15]), ([2, 2], [3, 1]),
)
NUMBERS = (0, 1, 2, 3, 4, -1, -2, 15, 16, 17, SIXTY, -SIXTY)
WALLS = [("unlike",)] + [("wall", r) for r in NUMBERS]
WALLS += [("below", side, place) for side in (0, 1, 2, -1, -2, SIXTY, -SIXTY) for place in NUMBERS]


def all_tables(many_rows, many_columns):
    rows = list(itertools.product((0, 1), repeat=many_columns))
    return itertools.product(rows, repeat=many_rows)


def summed(table):
    """The sums of a table, as a tuple of two tuples."""
    return (tuple(row.count(1) for row in table), tuple(column.count(1) for column in zip(*table)))


def tables_by_sums(many_rows, many_columns):
    held = {}
    for table in all_tables(many_rows, many_columns):
        held.setdefault(summed(table), []).append(table)
    return held


def is_table(table, many_rows, many_columns):
    if type(table) is not tuple or len(table) != many_rows:
        return False
    if any(type(row) is not tuple or len(row) != many_columns for row in table):
        return False
    return all(type(cell) is int and cell in (0, 1) for row in table for cell in row)


def great_tables():
    """Tables of up to 16 rows and columns, of no ones to all ones."""
    for many_rows, many_columns in ((16, 16), (16, 5), (5, 16), (1, 16), (16, 1), (15, 16), (9, 8)):
        for let in range(0, 12, 2):
            for turn in (1, 3):
                yield tuple(
                    tuple(int((row * row * turn + 5 * column + 2 * row * column) % 11 < let)
                          for column in range(many_columns))
                    for row in range(many_rows)
                )


def round_table(size, *far):
    """Each row has its ones so far behind the row's own number, round the columns."""
    return tuple(tuple(int((column - row) % size in far) for column in range(size)) for row in range(size))


def is_swap(table, four):
    i, j, k, l = four
    if i not in range(len(table)) or k not in range(len(table)) or i == k:
        return False
    if j not in range(len(table[0])) or l not in range(len(table[0])) or j == l:
        return False
    return table[i][j] == 1 and table[k][l] == 1 and table[i][l] == 0 and table[k][j] == 0


def done(table, four):
    i, j, k, l = four
    cells = {(row, column): cell for row, cells in enumerate(table) for column, cell in enumerate(cells)}
    for cell in ((i, j), (k, l), (i, l), (k, j)):
        cells[cell] = 1 - cells[cell]
    return tuple(tuple(cells[row, column] for column in range(len(table[0]))) for row in range(len(table)))


def is_wall(rows, columns, wall):
    if wall[0] == "unlike":
        return sum(rows) != sum(columns)
    if wall[0] == "below":
        held = {0: rows, 1: columns}.get(wall[1], ())
        return wall[2] in range(len(held)) and held[wall[2]] < 0
    greatest = sorted(rows, reverse=True)
    given = [min(number, wall[1]) for number in columns]
    return wall[1] in range(1, len(rows) + 1) and sum(greatest[:wall[1]]) > sum(given)


def told_wall(rows, columns):
    walls = [("below", 0, place) for place in range(len(rows))] + [("below", 1, place) for place in range(len(columns))]
    walls += [("unlike",)] + [("wall", r) for r in range(1, len(rows) + 1)]
    return next((wall for wall in walls if is_wall(rows, columns, wall)), None)


def small_sums():
    for many_rows, many_columns in SHAPES:
        numbers = range(-1, 4) if many_rows + many_columns < 6 else range(0, 4)
        for rows in itertools.product(numbers, repeat=many_rows):
            for columns in itertools.product(numbers, repeat=many_columns):
                yield rows, columns


class SumsOf(unittest.TestCase):
    def test_by_hand(self):
        self.assertEqual(sums_of(((0,),)), ([0], [0]))
        self.assertEqual(sums_of(((1,),)), ([1], [1]))
        self.assertEqual(sums_of(((1, 0, 1),)), ([2], [1, 0, 1]))
        self.assertEqual(sums_of(((1,), (0,), (1,))), ([1, 0, 1], [2]))
        self.assertEqual(sums_of(((1, 1, 0), (0, 1, 0))), ([2, 1], [1, 2, 0]))

    def test_every_small_and_some_great_tables(self):
        tables = [table for shape in SHAPES for table in all_tables(*shape)] + list(great_tables())
        for table in tables:
            told = sums_of(table)
            self.assertIs(type(told), tuple)
            self.assertEqual([type(part) for part in told], [list, list])
            self.assertEqual((tuple(told[0]), tuple(told[1])), summed(table))
        self.assertEqual(sums_of(((1,) * 16,) * 16), ([16] * 16, [16] * 16))

    def test_lists_of_their_own(self):
        table = ((1, 0), (0, 1))
        first, second = sums_of(table), sums_of(table)
        self.assertEqual(len({id(part) for part in first + second}), 4)
        first[0].append(9)
        self.assertEqual(first, ([1, 1, 9], [1, 1]))
        self.assertEqual(second, ([1, 1], [1, 1]))
        self.assertEqual(sums_of(table), second)


class Swapped(unittest.TestCase):
    def test_by_hand(self):
        table = ((1, 0), (0, 1))
        self.assertEqual(swapped(table, (0, 0, 1, 1)), ((0, 1), (1, 0)))
        self.assertEqual(swapped(table, (1, 1, 0, 0)), ((0, 1), (1, 0)))
        self.assertEqual(swapped(((0, 1), (1, 0)), (0, 1, 1, 0)), table)
        self.assertEqual(
            swapped(((1, 1, 0), (0, 0, 0), (0, 1, 1)), (2, 2, 0, 0)), ((0, 1, 1), (0, 0, 0), (1, 1, 0))
        )

    def test_every_four_of_small_tables(self):
        for shape in SHAPES:
            for table in all_tables(*shape):
                for four in itertools.product(range(-1, shape[0] + 1), range(-1, shape[1] + 1), repeat=2):
                    if is_swap(table, four):
                        behind = swapped(table, four)
                        self.assertTrue(is_table(behind, *shape))
                        self.assertEqual(behind, done(table, four))
                        self.assertEqual(summed(behind), summed(table))
                        self.assertEqual(swapped(behind, (four[0], four[3], four[2], four[1])), table)
                    else:
                        with self.assertRaises(NoExchange):
                            swapped(table, four)

    def test_great_tables(self):
        for table in list(great_tables())[::5] + [round_table(16, 0), round_table(16, 1, 2, 3, 8)]:
            fours = itertools.product(range(len(table)), range(len(table[0])), repeat=2)
            for four in list(fours)[::977]:
                if is_swap(table, four):
                    self.assertEqual(swapped(table, four), done(table, four))
                else:
                    with self.assertRaises(NoExchange):
                        swapped(table, four)

    def test_refuses_numbers_that_are_no_rows_or_columns(self):
        # The table is as it is from whichever end one counts, so that a count from its end would find a swap.
        table = ((1, 0), (0, 1))
        for number in (-1, -2, -3, 2, 3, 16, SIXTY, -SIXTY):
            for k in range(4):
                four = [0, 0, 1, 1]
                four[k] = number
                with self.subTest(four=four):
                    with self.assertRaises(NoExchange):
                        swapped(table, tuple(four))
        with self.assertRaises(NoExchange):
            swapped(table, (-2, -2, -1, -1))
        for four in ((0, 0, 16, 1), (0, 0, 1, 16), (16, 0, 1, 1), (0, 16, 1, 1), (0, 0, -1, 15), (0, 0, 15, -1)):
            with self.assertRaises(NoExchange):
                swapped(round_table(16, 0), four)
        # Rows are held against the number of rows and columns against that of columns.
        wide, high = ((1, 0, 0), (0, 0, 1)), ((1, 0), (0, 0), (0, 1))
        self.assertEqual(swapped(wide, (0, 0, 1, 2)), ((0, 0, 1), (1, 0, 0)))
        self.assertEqual(swapped(high, (0, 0, 2, 1)), ((0, 1), (0, 0), (1, 0)))
        for table, four in ((wide, (0, 0, 2, 1)), (high, (0, 0, 1, 2))):
            with self.assertRaises(NoExchange):
                swapped(table, four)

    def test_refuses_the_same_row_or_column_twice(self):
        for table in (((1, 0), (0, 1)), ((1, 1), (1, 1)), ((0, 0), (0, 0)), ((1,),), ((0,),)):
            for row in range(len(table)):
                for column in range(len(table[0])):
                    for four in ((row, 0, row, column), (0, column, row, column), (row, column, row, column)):
                        with self.assertRaises(NoExchange):
                            swapped(table, four)

    def test_the_table_stays(self):
        table = ((1, 0), (0, 1))
        self.assertEqual(swapped(table, (0, 0, 1, 1)), swapped(table, (0, 0, 1, 1)))
        self.assertEqual(table, ((1, 0), (0, 1)))


class Walls(unittest.TestCase):
    def test_by_hand(self):
        self.assertIsNone(wall_of_sums([0], [0]))
        self.assertIsNone(wall_of_sums([1, 1], (1, 1)))
        self.assertEqual(wall_of_sums([2], [2]), ("wall", 1))
        self.assertEqual(wall_of_sums([2, 2, 0], [3, 1]), ("wall", 2))
        self.assertEqual(wall_of_sums((3, 3, 1), (3, 3, 1)), ("wall", 2))
        self.assertEqual(wall_of_sums([1, 1], [2, 0]), None)
        self.assertEqual(wall_of_sums([1, 1, 1], [4, -1]), ("below", 1, 1))

    def test_the_order_of_the_walls(self):
        self.assertEqual(wall_of_sums([1, -1, -1], [-1, 5]), ("below", 0, 1))
        self.assertEqual(wall_of_sums([9, 0, 0], [3, -2, -1]), ("below", 1, 1))
        self.assertEqual(wall_of_sums([9, 0, 0], [3, 2, 1]), ("unlike",))
        self.assertEqual(wall_of_sums([9, 9, 0], [6, 6, 6]), ("wall", 1))
        self.assertEqual(wall_of_sums([3, 3, 3], [4, 4, 1]), ("wall", 2))
        self.assertEqual(wall_of_sums([2, 2, 2, 2], [5, 3]), ("wall", 4))
        self.assertEqual(wall_of_sums([-1, 0], [-2, 1]), ("below", 0, 0))

    def test_held_against_all_small_tables(self):
        held = {shape: tables_by_sums(*shape) for shape in SHAPES}
        for rows, columns in small_sums():
            wall = wall_of_sums(rows, columns)
            self.assertEqual(wall, told_wall(rows, columns), (rows, columns))
            self.assertEqual(wall is None, (rows, columns) in held[len(rows), len(columns)], (rows, columns))
            if wall is not None:
                self.assertIs(type(wall), tuple)
                self.assertIs(wall_shows_sums(rows, columns, wall), True)

    def test_lists_and_tuples(self):
        for rows, columns in (((3, 3, 1), (3, 3, 1)), ((1, 2), (2, 1)), ((1, 2), (2, 2)), ((1, 2), (4, -1))):
            for one, other in itertools.product((list, tuple), repeat=2):
                self.assertEqual(wall_of_sums(one(rows), other(columns)), told_wall(rows, columns))
                for wall in WALLS:
                    shown = wall_shows_sums(one(rows), other(columns), wall)
                    self.assertIs(shown, is_wall(rows, columns, wall))

    def test_great_sums(self):
        for table in great_tables():
            rows, columns = summed(table)
            self.assertIsNone(wall_of_sums(rows, columns))
            for one, other in ((0, -1), (-1, 0), (len(rows) // 2, 0)):
                for more, fewer in ((1, 1), (-1, -1), (2, 0), (1, -1)):
                    changed, beside = list(rows), list(columns)
                    changed[one] += more
                    beside[other] += fewer
                    wall = told_wall(changed, beside)
                    self.assertEqual(wall_of_sums(changed, beside), wall, (changed, beside))
                    if wall is None:
                        self.assertEqual(summed(table_of(changed, beside)[1]), (tuple(changed), tuple(beside)))

    def test_numbers_of_sixty_figures(self):
        self.assertEqual(wall_of_sums([SIXTY], [SIXTY]), ("wall", 1))
        self.assertEqual(wall_of_sums([SIXTY, 1], [SIXTY, 0]), ("unlike",))
        self.assertEqual(wall_of_sums([0, -SIXTY], [SIXTY]), ("below", 0, 1))
        self.assertEqual(wall_of_sums([SIXTY], [0] * 15 + [-SIXTY]), ("below", 1, 15))
        self.assertEqual(wall_of_sums([1] * 15 + [SIXTY], [SIXTY, 15]), ("wall", 1))

    def test_shows_every_wall_of_small_sums(self):
        for rows, columns in list(small_sums())[::7]:
            for wall in WALLS:
                self.assertIs(wall_shows_sums(rows, columns, wall), is_wall(rows, columns, wall), (rows, columns, wall))

    def test_shows_any_right_wall_and_no_wrong_one(self):
        shown = [wall for wall in WALLS if wall_shows_sums([9, -1, -2], [3, -3], wall)]
        self.assertEqual(shown, [
            ("unlike",), ("wall", 1), ("wall", 2), ("wall", 3), ("below", 0, 1), ("below", 0, 2), ("below", 1, 1),
        ])
        self.assertEqual([wall for wall in WALLS if wall_shows_sums([1, 1], [1, 1], wall)], [])
        # A column below nought counts as it is: with two rows they can give none at all.
        self.assertEqual(
            [wall for wall in WALLS if wall_shows_sums([0, 0], [2, -2], wall)], [("wall", 1), ("below", 1, 1)]
        )

    def test_shows_of_16(self):
        self.assertIs(wall_shows_sums([1] * 16, [15], ("wall", 16)), True)
        self.assertIs(wall_shows_sums([1] * 16, [15], ("wall", 15)), False)
        self.assertIs(wall_shows_sums([1] * 16, [15], ("wall", 17)), False)
        self.assertIs(wall_shows_sums([0] * 15 + [-1], [0], ("below", 0, 15)), True)
        self.assertIs(wall_shows_sums([0] * 15 + [-1], [0], ("below", 0, -1)), False)
        self.assertIs(wall_shows_sums([0] * 15 + [-1], [0], ("below", 1, 15)), False)
        self.assertIs(wall_shows_sums([0], [0] * 15 + [-1], ("below", 1, 15)), True)
        self.assertIs(wall_shows_sums([0], [0] * 15 + [-1], ("below", -1, 15)), False)
        self.assertIs(wall_shows_sums([0], [0] * 15 + [-1], ("below", -1, 0)), False)

    def test_what_is_handed_in_stays(self):
        rows, columns = [1, 3, 2], [2, 2, 2]
        self.assertEqual(wall_of_sums(rows, columns), wall_of_sums(rows, columns))
        for wall in WALLS:
            wall_shows_sums(rows, columns, wall)
        table_of(rows, columns)
        cell_told(rows, columns, 0, 0)
        self.assertEqual((rows, columns), ([1, 3, 2], [2, 2, 2]))

    def test_no_sums_ahead_of_all_else(self):
        for wrong in NOT_SUMS:
            for rows, columns in ((wrong, [1]), ([1], wrong), (wrong, wrong), ([-1, 3], wrong), (wrong, (2, -1))):
                with self.assertRaises(BadTally):
                    wall_of_sums(rows, columns)
                with self.assertRaises(BadTally):
                    table_of(rows, columns)
                for wall in (("unlike",), ("wall", 1), ("below", 0, 0), ("below", 1, 0), ("below", 2, 0), ("wall", 99)):
                    with self.assertRaises(BadTally):
                        wall_shows_sums(rows, columns, wall)
                for row, column in ((0, 0), (-1, 0), (0, 99), (SIXTY, -SIXTY)):
                    with self.assertRaises(BadTally):
                        cell_told(rows, columns, row, column)


class TableOf(unittest.TestCase):
    def assert_told(self, rows, columns):
        told = table_of(rows, columns)
        self.assertIs(type(told), tuple)
        self.assertEqual((len(told), told[0]), (2, "table"))
        self.assertTrue(is_table(told[1], len(rows), len(columns)), told)
        self.assertEqual(summed(told[1]), (tuple(rows), tuple(columns)))
        self.assertEqual(table_of(list(rows), list(columns)), told)

    def test_by_hand(self):
        self.assertEqual(table_of([0], [0]), ("table", ((0,),)))
        self.assertEqual(table_of([1], (1,)), ("table", ((1,),)))
        self.assertEqual(table_of([2, 1], [1, 2]), ("table", ((1, 1), (0, 1))))
        self.assertEqual(table_of((3, 3, 1), [3, 3, 1]), ("wall", ("wall", 2)))
        self.assertEqual(table_of([1], [2]), ("wall", ("unlike",)))
        self.assertEqual(table_of([1], [2, -1]), ("wall", ("below", 1, 1)))

    def test_all_small_sums(self):
        for rows, columns in small_sums():
            wall = told_wall(rows, columns)
            if wall is None:
                self.assert_told(rows, columns)
            else:
                self.assertEqual(table_of(rows, columns), ("wall", wall))

    def test_sums_of_all_tables_of_three_by_four(self):
        for rows, columns in tables_by_sums(3, 4):
            self.assert_told(rows, columns)
            self.assert_told(columns, rows)

    def test_great_tables(self):
        for table in great_tables():
            self.assert_told(*summed(table))
        for many in range(17):
            self.assert_told([many] * 16, [many] * 16)
            self.assert_told([16] * many + [0] * (16 - many), [many] * 16)
            self.assert_told([many] * 16, [16] * many + [0] * (16 - many))
        stairs = list(range(1, 17))
        self.assert_told(stairs, stairs)
        self.assert_told(stairs[::-1], stairs)
        self.assert_told(stairs[::2] + stairs[1::2], stairs)

    def test_the_same_asked_twice(self):
        self.assertEqual(table_of([2] * 16, [2] * 16), table_of([2] * 16, [2] * 16))


class SwapsLed(unittest.TestCase):
    def assert_led(self, one, two):
        steps = swaps_led(one, two)
        self.assertIs(type(steps), list)
        self.assertLessEqual(len(steps), sum(summed(one)[0]))
        table = one
        for four in steps:
            self.assertIs(type(four), tuple)
            self.assertTrue(is_swap(table, four), (one, two, four))
            table = done(table, four)
        self.assertEqual(table, two)
        if one == two:
            self.assertEqual(steps, [])

    def test_from_each_small_table_to_each_other_of_its_sums(self):
        for shape in SHAPES:
            for tables in tables_by_sums(*shape).values():
                for one, two in itertools.product(tables, repeat=2):
                    self.assert_led(one, two)

    def test_tables_of_three_by_four_and_four_by_four(self):
        for many_rows, many_columns in ((3, 4), (4, 3)):
            for tables in tables_by_sums(many_rows, many_columns).values():
                for one, two in itertools.product(tables[::3], tables[::-4]):
                    self.assert_led(one, two)
        held = tables_by_sums(4, 4)
        for sums in (((2,) * 4, (2,) * 4), ((1,) * 4, (1,) * 4), ((3, 2, 2, 1), (2, 2, 2, 2)), ((3,) * 4, (3,) * 4)):
            for one, two in itertools.product(held[sums], repeat=2):
                self.assert_led(one, two)

    def test_great_tables(self):
        for table in great_tables():
            other = table_of(*summed(table))[1]
            turned = table_of(summed(table)[0][::-1], summed(table)[1])[1][::-1]
            self.assert_led(table, other)
            self.assert_led(other, table)
            self.assert_led(other, turned)
            self.assert_led(table, table)

    def test_great_tables_with_no_one_in_common(self):
        for one, two in itertools.permutations((range(0, 8), range(8, 16), range(0, 16, 2), range(1, 16, 2)), 2):
            self.assert_led(round_table(16, *one), round_table(16, *two))
        for far in range(16):
            self.assert_led(round_table(16, 0), round_table(16, far))
            self.assert_led(round_table(16, far), round_table(16, 3))
            self.assert_led(round_table(15, 1, 2), round_table(15, far % 15, (far + 4) % 15))

    def test_refuses_unlike_sums(self):
        tables = (
            ((1, 0), (0, 1)), ((1, 0), (1, 0)), ((1, 1), (0, 0)), ((0, 0), (0, 0)), ((1, 1), (1, 1)),
            ((1, 0, 0), (0, 1, 0)), ((1, 0), (0, 1), (0, 0)), ((0, 0), (1, 0), (0, 1)), ((1,), (1,)), ((1, 1),),
            ((0,),), ((1,),), ((0, 0),), ((0,), (0,)), round_table(16, 0), round_table(16, 0, 1), round_table(15, 0),
        )
        for one, two in itertools.permutations(tables, 2):
            with self.subTest(one=one, two=two):
                with self.assertRaises(Unlike):
                    swaps_led(one, two)

    def test_the_same_asked_twice_and_each_list_its_own(self):
        one, two = round_table(5, 0, 1), round_table(5, 1, 3)
        first, second = swaps_led(one, two), swaps_led(one, two)
        self.assertEqual(first, second)
        self.assertIsNot(first, second)
        first.clear()
        self.assertEqual(swaps_led(one, two), second)
        self.assertIsNot(swaps_led(one, one), swaps_led(one, one))
        self.assertEqual((one, two), (round_table(5, 0, 1), round_table(5, 1, 3)))


class CellTold(unittest.TestCase):
    def test_by_hand(self):
        self.assertEqual(cell_told([1], [1], 0, 0), "one")
        self.assertEqual(cell_told([0], (0,), 0, 0), "nought")
        self.assertEqual(cell_told((1, 1), [1, 1], 1, 0), "either")
        self.assertEqual(cell_told([2, 1], [1, 2], 0, 0), "one")
        self.assertEqual(cell_told([2, 1], [1, 2], 1, 0), "nought")
        self.assertEqual(cell_told([2, 1], [1, 2], 1, 1), "one")

    def test_held_against_all_tables_of_small_sums(self):
        for shape in SHAPES + ((3, 4), (4, 3)):
            for (rows, columns), tables in tables_by_sums(*shape).items():
                for row, column in itertools.product(range(shape[0]), range(shape[1])):
                    cells = {table[row][column] for table in tables}
                    expected = "either" if len(cells) == 2 else "one" if 1 in cells else "nought"
                    self.assertEqual(cell_told(rows, columns, row, column), expected, (rows, columns, row, column))
                    self.assertEqual(cell_told(list(rows), list(columns), row, column), expected)

    def test_16_rows_and_columns(self):
        stairs = list(range(1, 17))
        for row, column in itertools.product(range(16), repeat=2):
            self.assertEqual(cell_told([16] * 16, [16] * 16, row, column), "one")
            self.assertEqual(cell_told([0] * 16, [0] * 16, row, column), "nought")
            self.assertEqual(cell_told([3] * 16, [3] * 16, row, column), "either")
            # The row of so many ones has them in the greatest columns.
            self.assertEqual(cell_told(stairs, stairs, row, column), "one" if row + column >= 15 else "nought")
        self.assertEqual(cell_told([16] + [1] * 15, [2] * 15 + [1], 0, 15), "one")
        self.assertEqual(cell_told([16] + [1] * 15, [2] * 15 + [1], 15, 15), "nought")
        self.assertEqual(cell_told([16] + [1] * 15, [2] * 15 + [1], 15, 0), "either")

    def test_no_table_ahead_of_no_place(self):
        for rows, columns in WITHOUT_TABLE:
            for row, column in ((0, 0), (-1, 0), (0, -1), (16, 16), (SIXTY, 0), (0, -SIXTY)):
                with self.subTest(rows=rows, columns=columns, row=row, column=column):
                    with self.assertRaises(NoWeb):
                        cell_told(rows, columns, row, column)

    def test_no_place(self):
        for rows, columns in (([1, 1], [1, 1]), ((2, 0), (1, 1)), ([1, 0], (0, 1))):
            for number in (-1, -2, -3, 2, 3, 16, SIXTY, -SIXTY):
                for row, column in ((0, number), (number, 0), (number, number), (1, number), (number, 1)):
                    with self.subTest(rows=rows, columns=columns, row=row, column=column):
                        with self.assertRaises(NoPlace):
                            cell_told(rows, columns, row, column)
        # Rows and columns are held against unlike numbers of them.
        self.assertEqual(cell_told([1], [1, 0], 0, 1), "nought")
        self.assertEqual(cell_told([1, 0], [1], 1, 0), "nought")
        for rows, columns, row, column in (([1], [1, 0], 1, 0), ([1, 0], [1], 0, 1), ([1] * 16, [1] * 16, 16, 0),
                                           ([1] * 16, [1] * 16, 0, 16)):
            with self.assertRaises(NoPlace):
                cell_told(rows, columns, row, column)


if __name__ == "__main__":
    unittest.main()
