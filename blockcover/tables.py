"""Tables turned, made plain, put together and changed."""

from blockcover.checks import MOST, check_cell, check_table, is_yes
from blockcover.errors import TooGreat


def turned(table):
    check_table(table)
    return columns_of(table)


def plain(table):
    check_table(table)
    rows = once_with_yes(table)
    if not rows:
        return ["0"]
    return columns_of(once_with_yes(columns_of(rows)))


def together(one, other):
    check_table(one)
    check_table(other)
    width = len(one[0])
    other_width = len(other[0])
    if len(one) + len(other) > MOST or width + other_width > MOST:
        raise TooGreat("together they have more than 5 rows or columns")
    upper = [row + "0" * other_width for row in one]
    lower = ["0" * width + row for row in other]
    return upper + lower


def changed(table, cell):
    check_table(table)
    check_cell(table, cell)
    row, column = cell
    sign = "0" if is_yes(table, cell) else "1"
    told = list(table)
    told[row] = table[row][:column] + sign + table[row][column + 1:]
    return told


def columns_of(rows):
    return ["".join([row[at] for row in rows]) for at in range(len(rows[0]))]


def once_with_yes(lines):
    """The rows, or columns, that have a yes cell, alike ones once, as they stand first."""
    kept = []
    for line in lines:
        if "1" in line and line not in kept:
            kept.append(line)
    return kept
