"""Full blocks, greatest blocks, and yes cells that are near or apart."""

from blockcover.checks import check_block, check_table, check_yes_cell, is_yes


def full(table, block):
    check_table(table)
    check_block(table, block)
    rows, columns = block
    return all([is_yes(table, (row, column)) for row in rows for column in columns])


def greatest(table):
    check_table(table)
    blocks = []
    for rows in choices(len(table)):
        columns = common_columns(table, rows)
        # A full block is greatest just if no row and no column can be added to it.
        if columns and common_rows(table, columns) == rows:
            blocks.append((rows, columns))
    return sorted(blocks)


def near(table, one, other):
    check_table(table)
    check_yes_cell(table, one)
    check_yes_cell(table, other)
    return are_near(table, one, other)


def apart(table):
    check_table(table)
    # Cells of one row or of one column are near, so the sets that are apart stay few.
    found = [[]]
    for cell in yes_cells(table):
        found = found + [cells + [cell] for cells in found if is_apart_from(table, cells, cell)]
    return max(found, key=len)


def choices(many):
    """All rising lists, not empty, of numbers from 0 on below the given one."""
    found = [[]]
    for at in range(many):
        found = found + [chosen + [at] for chosen in found]
    return found[1:]


def common_columns(table, rows):
    """The columns in which all of these rows have yes cells."""
    return [column for column in range(len(table[0])) if all([is_yes(table, (row, column)) for row in rows])]


def common_rows(table, columns):
    """The rows in which all of these columns have yes cells."""
    return [row for row in range(len(table)) if all([is_yes(table, (row, column)) for column in columns])]


def yes_cells(table):
    cells = [(row, column) for row in range(len(table)) for column in range(len(table[0]))]
    return [cell for cell in cells if is_yes(table, cell)]


def are_near(table, one, other):
    return is_yes(table, (one[0], other[1])) and is_yes(table, (other[0], one[1]))


def is_apart_from(table, cells, cell):
    return not any([are_near(table, told, cell) for told in cells])
