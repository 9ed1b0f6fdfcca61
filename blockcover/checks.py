"""What is a table, a count, a cell and a block, asked of values of any kind.

Each check asks for the kind of a value before it compares or measures it, so that values of
any kind are refused and not stumbled over. No message shows a refused value: Python itself
fails to write out numbers of many figures.
"""

from blockcover.errors import BadBlock, BadCell, BadCount, BadTable, TooGreat

MOST = 5


def is_number(value):
    return isinstance(value, int) and not isinstance(value, bool)


def is_count(value):
    return is_number(value) and value >= 0


def is_row(value):
    if not isinstance(value, str) or not 1 <= len(value) <= MOST:
        return False
    return all([sign in "01" for sign in value])


def is_table(value):
    if not isinstance(value, list) or not 1 <= len(value) <= MOST:
        return False
    if not all([is_row(row) for row in value]):
        return False
    return all([len(row) == len(value[0]) for row in value])


def is_place(value, many):
    """Whether the value counts one of so many rows or columns."""
    return is_number(value) and 0 <= value < many


def is_cell(table, value):
    if not isinstance(value, tuple) or len(value) != 2:
        return False
    row, column = value
    return is_place(row, len(table)) and is_place(column, len(table[0]))


def is_yes(table, cell):
    row, column = cell
    return table[row][column] == "1"


def is_rising(value, many):
    """Whether the value is a rising list, not empty, of some of so many rows or columns."""
    if not isinstance(value, list) or len(value) == 0:
        return False
    if not all([is_place(at, many) for at in value]):
        return False
    return all([low < high for low, high in zip(value, value[1:])])


def is_block(table, value):
    if not isinstance(value, tuple) or len(value) != 2:
        return False
    rows, columns = value
    return is_rising(rows, len(table)) and is_rising(columns, len(table[0]))


def check_table(value):
    if not is_table(value):
        raise BadTable("a table is a list of 1 to 5 texts of 1 to 5 signs 0 and 1, all of as many")


def check_size(table, most):
    if len(table) > most or len(table[0]) > most:
        raise TooGreat(f"the table has more than {most} rows or columns")


def check_count(value):
    if not is_count(value):
        raise BadCount("a count is a number from 0 on")


def check_cell(table, value):
    if not is_cell(table, value):
        raise BadCell("a cell is a pair of a row and a column of the table")


def check_yes_cell(table, value):
    check_cell(table, value)
    if not is_yes(table, value):
        raise BadCell("the sign of a yes cell is 1")


def check_block(table, value):
    if not is_block(table, value):
        raise BadBlock("a block is a pair of rising lists of rows and of columns of the table, none empty")
