"""Tables of noughts and ones with told sums of their rows and columns."""

from tallyweb.errors import BadTally, NoExchange, NoWeb, Unlike
from tallyweb.laying import first_of_order
from tallyweb.leading import led_back, steps_between
from tallyweb.tallies import moved
from tallyweb.walls import falling, places_below
from tallyweb.webs import is_place

MOST_SUMS = 16


def check_sums(rows, columns):
    if not 1 <= len(rows) <= MOST_SUMS or not 1 <= len(columns) <= MOST_SUMS:
        raise BadTally("a table has sums of 1 to 16 rows and of 1 to 16 columns")


def sums_of(table):
    of_columns = [sum([row[column] for row in table]) for column in range(len(table[0]))]
    return ([sum(row) for row in table], of_columns)


def room_for(rows, columns, r):
    return sum([min(number, r) for number in columns]) - sum(falling(rows)[:r])


def wall_of_sums(rows, columns):
    check_sums(rows, columns)
    for side, numbers in enumerate((rows, columns)):
        below = places_below(numbers)
        if below:
            return ("below", side, below[0])
    if sum(rows) != sum(columns):
        return ("unlike",)
    for r in range(1, len(rows) + 1):
        if room_for(rows, columns, r) < 0:
            return ("wall", r)
    return None


def wall_shows_sums(rows, columns, wall):
    check_sums(rows, columns)
    if wall[0] == "unlike":
        return sum(rows) != sum(columns)
    if wall[0] == "below":
        return wall[1] in (0, 1) and wall[2] in places_below((rows, columns)[wall[1]])
    return 1 <= wall[1] <= len(rows) and room_for(rows, columns, wall[1]) < 0


def laid_row(columns, ones):
    chosen = first_of_order(columns, ones, [])
    return tuple([1 if column in chosen else 0 for column in range(len(columns))])


def laid_table(rows, columns):
    # Swaps bring the ones of a row to the columns that lack most, so each row can be laid there.
    left = list(columns)
    table = []
    for ones in rows:
        row = laid_row(left, ones)
        table.append(row)
        left = [number - cell for number, cell in zip(left, row)]
    return tuple(table)


def table_of(rows, columns):
    wall = wall_of_sums(rows, columns)
    if wall is not None:
        return ("wall", wall)
    return ("table", laid_table(rows, columns))


def can_swap(table, four):
    if not is_place(len(table), four[0]) or not is_place(len(table), four[2]):
        return False
    if not is_place(len(table[0]), four[1]) or not is_place(len(table[0]), four[3]):
        return False
    # The cells being so, the rows are unlike, and the columns too.
    here = table[four[0]]
    there = table[four[2]]
    return (here[four[1]], here[four[3]], there[four[1]], there[four[3]]) == (1, 0, 0, 1)


def swapped(table, four):
    if not can_swap(table, four):
        raise NoExchange("the four are no swap of the table")
    cells = [list(row) for row in table]
    for row in (four[0], four[2]):
        for column in (four[1], four[3]):
            cells[row][column] = 1 - cells[row][column]
    return tuple([tuple(row) for row in cells])


def swap_nearer(one, two):
    # In the rows behind the first unlike one, either column l has more ones than column j in the first table,
    # or j more than l in the second: so with some row there the swap can begin at the one or end at the other.
    i = [row for row in range(len(one)) if one[row] != two[row]][0]
    turned = [here - there for here, there in zip(one[i], two[i])]
    j = turned.index(1)
    l = turned.index(-1)
    fours = [(i, j, k, l) for k in range(i + 1, len(one))]
    return [four for four in fours if can_swap(one, four) or can_swap(two, led_back(four))][0]


def swaps_led(one, two):
    if sums_of(one) != sums_of(two):
        raise Unlike("the sums of the two tables are unlike")
    # Each swap puts a one of the first unlike row right and leaves the rows ahead alone.
    return steps_between(one, two, swap_nearer, can_swap, swapped)


def wall_of_moved(rows, columns, row, column, more):
    # What is no row or no column, moved refuses.
    return wall_of_sums(moved(rows, row, more), moved(columns, column, more))


def cell_told(rows, columns, row, column):
    if wall_of_sums(rows, columns) is not None:
        raise NoWeb("there is no table of these sums")
    if wall_of_moved(rows, columns, row, column, 1) is not None:
        return "one"
    if wall_of_moved(rows, columns, row, column, -1) is not None:
        return "nought"
    return "either"
