"""Covers and parts: told by blocks, or by a tree of cases; the fewest of them, and how many ways there are."""

from blockcover.answers import Barred, Covered, Parted, Split
from blockcover.blocks import Cases, most_apart, without, yes_cells
from blockcover.checks import check_count, check_size, check_table
from blockcover.rank import rank

MOST_PARTED = 4
MOST_COUNTED = 3


def covered(table, most):
    check_table(table)
    check_count(most)
    blocks, tree = search(Cases(table, False), table, most)
    return Barred(tree) if blocks is None else Covered(blocks)


def fewest(table):
    check_table(table)
    return least_count(Cases(table, False), table)


def parted(table, most):
    check_table(table)
    check_size(table, MOST_PARTED)
    check_count(most)
    blocks, tree = search(Cases(table, True), table, most)
    return Split(tree) if blocks is None else Parted(blocks)


def fewest_parts(table):
    check_table(table)
    check_size(table, MOST_PARTED)
    return least_count(Cases(table, True), table)


def how_many_parts(table, many):
    check_table(table)
    check_size(table, MOST_COUNTED)
    check_count(many)
    return ways(Cases(table, True), table, many)


def search(cases, left, count):
    """A pair: at most so many blocks that have all cells left, or a tree that shows that there are none.

    None stands in the place of the other.
    """
    cells = yes_cells(left)
    if not cells:
        return [], None
    end = end_of(cases, left, count)
    if end is not None:
        return None, end
    # The cell with the fewest blocks makes the smallest tree.
    cell = min(cells, key=lambda one: len(cases.blocks_at(left, one)))
    trees = []
    for block in cases.blocks_at(left, cell):
        blocks, tree = search(cases, without(left, block), count - 1)
        if tree is None:
            return [block] + blocks, None
        trees.append(tree)
    return None, ("cell", cell, trees)


def end_of(cases, left, count):
    """A tree without cases that shows that so many blocks are too few, or None."""
    cells = most_apart(cases.table, yes_cells(left))
    if len(cells) > count:
        return ("apart", cells)
    if cases.parting and rank(left) > count:
        return ("rank",)
    return None


def least_count(cases, table):
    count = 0
    while search(cases, table, count)[0] is None:
        count += 1
    return count


def ways(cases, left, many):
    """In how many ways so many full blocks have each cell left, no cell in two."""
    cells = yes_cells(left)
    if many == 0:
        return 0 if cells else 1
    # Each part has a cell of its own.
    if many > len(cells):
        return 0
    # The first cell is in just one part of each way, so no way is counted twice.
    return sum([ways(cases, without(left, block), many - 1) for block in cases.blocks_at(left, cells[0])])
