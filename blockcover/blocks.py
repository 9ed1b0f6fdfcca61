"""Full blocks, greatest blocks, and yes cells that are near or apart.

Cells that are left of a table stand as a table of its size that has yes just at these.
"""

from blockcover.checks import check_block, check_table, check_yes_cell, is_yes


class Cases:
    """The blocks that a tree of cases has to look at.

    In covering these are the greatest blocks that have a cell, in parting all full blocks that
    have it and only cells that are left.
    """

    def __init__(self, table, parting):
        self.table = table
        self.parting = parting
        blocks = full_blocks(table) if parting else greatest(table)
        self.having = {cell: [block for block in blocks if has_cell(block, cell)] for cell in yes_cells(table)}

    def blocks_at(self, left, cell):
        blocks = self.having[cell]
        return [block for block in blocks if not self.parting or has_only_yes(left, block)]


def full(table, block):
    check_table(table)
    check_block(table, block)
    return has_only_yes(table, block)


def greatest(table):
    check_table(table)
    blocks = []
    for rows in choices(list(range(len(table)))):
        columns = common_columns(table, rows)
        # A full block is greatest just if no row and no column can be added to it.
        if columns and common_rows(table, columns) == rows:
            blocks.append((rows, columns))
    return sorted(blocks)


def near(table, one, other):
    check_table(table)
    check_yes_cell(table, one)
    check_yes_cell(table, other)
    return are_near(table, one, other)


def apart(table):
    check_table(table)
    return most_apart(table, yes_cells(table))


def most_apart(table, cells):
    """As many of these yes cells as can be that are apart."""
    # Cells of one row or of one column are near, so the lists that are apart stay few.
    found = [[]]
    for cell in cells:
        found = found + [chosen + [cell] for chosen in found if is_apart_from(table, chosen, cell)]
    return max(found, key=len)


def full_blocks(table):
    """All full blocks, in order."""
    blocks = []
    for rows in choices(list(range(len(table)))):
        for columns in choices(common_columns(table, rows)):
            blocks.append((rows, columns))
    return sorted(blocks)


def choices(places):
    """All lists, not empty, of some of these places, in their order."""
    found = [[]]
    for at in places:
        found = found + [chosen + [at] for chosen in found]
    return found[1:]


def common_columns(table, rows):
    """The columns in which all of these rows have yes cells."""
    return [column for column in range(len(table[0])) if all([is_yes(table, (row, column)) for row in rows])]


def common_rows(table, columns):
    """The rows in which all of these columns have yes cells."""
    return [row for row in range(len(table)) if all([is_yes(table, (row, column)) for column in columns])]


def yes_cells(table):
    cells = [(row, column) for row in range(len(table)) for column in range(len(table[0]))]
    return [cell for cell in cells if is_yes(table, cell)]


def has_cell(block, cell):
    rows, columns = block
    return cell[0] in rows and cell[1] in columns


def has_only_yes(table, block):
    rows, columns = block
    return all([is_yes(table, (row, column)) for row in rows for column in columns])


def without(left, block):
    """The cells left that the block hasn't."""
    rows, columns = block
    told = list(left)
    for row in rows:
        told[row] = "".join(["0" if at in columns else sign for at, sign in enumerate(left[row])])
    return told


def are_near(table, one, other):
    return is_yes(table, (one[0], other[1])) and is_yes(table, (other[0], one[1]))


def is_apart_from(table, cells, cell):
    return not any([are_near(table, told, cell) for told in cells])
