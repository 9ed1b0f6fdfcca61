"""What the tests hold against the program, reckoned in other ways, from the document's words."""

import itertools
import random
from fractions import Fraction

from samples import are_apart, cells_of, full_blocks, near_pairs, yes_cells


def greatest_blocks(table):
    blocks = full_blocks(table)
    cells = [cells_of(block) for block in blocks]
    return sorted(block for block in blocks if not any(cells_of(block) < more for more in cells))


def mask_of(cells):
    """The cells as the bits of one number."""
    return sum(1 << (8 * row + column) for row, column in cells)


def masks(blocks):
    return [mask_of(cells_of(block)) for block in blocks]


def fewest_covers(table):
    """Level by level all that so many full blocks have together, until it is all yes cells."""
    # Each block may be widened to a greatest one, so that these alone are enough.
    blocks, goal = masks(greatest_blocks(table)), mask_of(yes_cells(table))
    reached, many = {0}, 0
    while goal not in reached:
        reached, many = {had | block for had in reached for block in blocks}, many + 1
    return many


def fewest_in_parts(table):
    blocks, goal = masks(full_blocks(table)), mask_of(yes_cells(table))
    reached, many = {0}, 0
    while goal not in reached:
        reached, many = {had | block for had in reached for block in blocks if not had & block}, many + 1
    return many


def ways_by_count(table):
    """For each count of parts in how many ways; each full block is in a way or not."""
    found = {(0, 0): 1}
    for block in masks(full_blocks(table)):
        for (had, many), ways in list(found.items()):
            if not had & block:
                key = (had | block, many + 1)
                found[key] = found.get(key, 0) + ways
    goal = mask_of(yes_cells(table))
    return {many: ways for (had, many), ways in found.items() if had == goal}


def comes_of(row, others):
    """Whether the row is a sum of the others, each some fraction of times."""
    # One equation a column: the fractions are unknown, what the row has stands behind.
    lines = [[Fraction(int(other[at])) for other in others] + [Fraction(int(row[at]))] for at in range(len(row))]
    for unknown in range(len(others)):
        lead = next((line for line in lines if line[unknown]), None)
        if lead is not None:
            lines = [[a - b * line[unknown] / lead[unknown] for a, b in zip(line, lead)]
                     for line in lines if line is not lead]
    return not any(line[-1] for line in lines)


def rank_by_choice(table):
    """The most rows that can be chosen such that none comes of the others."""
    for size in range(len(table), 0, -1):
        for chosen in itertools.combinations(range(len(table)), size):
            if not any(comes_of(table[at], [table[k] for k in chosen if k != at]) for at in chosen):
                return size
    return 0


def table_of(left, table):
    """The table of that size that has yes just at these cells."""
    return ["".join("1" if (row, at) in left else "0" for at in range(len(table[0]))) for row in range(len(table))]


class Trees:
    """Trees of cases of one table: looked at, and built, as points 8 and 10 tell."""

    def __init__(self, table, parting):
        self.table = table
        self.parting = parting
        self.blocks = sorted(full_blocks(table)) if parting else greatest_blocks(table)
        self.pairs = near_pairs(table)
        self.yes = frozenset(yes_cells(table))

    def cases(self, left, cell):
        blocks = [block for block in self.blocks if cell in cells_of(block)]
        return [block for block in blocks if cells_of(block) <= left] if self.parting else blocks

    def hold(self, tree, count):
        return self.holds(tree, self.yes, count)

    def holds(self, tree, left, count):
        if tree[0] == "apart" and len(tree) == 2:
            cells = tree[1]
            return (len(cells) > count and len(set(cells)) == len(cells) and set(cells) <= left
                    and are_apart(cells, self.pairs))
        if is_case(tree):
            cell, trees = tree[1:]
            if cell not in left or count < 1:
                return False
            blocks = self.cases(left, cell)
            return len(blocks) == len(trees) and all(
                self.holds(one, left - cells_of(block), count - 1) for one, block in zip(trees, blocks))
        return self.parting and tree == ("rank",) and rank_by_choice(table_of(left, self.table)) > count

    def ends(self, left, count):
        """Some trees without cases that hold, among the cells that are left."""
        told = [("apart", list(cells)) for cells in itertools.combinations(sorted(left), count + 1)
                if are_apart(cells, self.pairs)]
        if self.parting and rank_by_choice(table_of(left, self.table)) > count:
            told.append(("rank",))
        return told

    def build(self, count, draw, deep):
        return self.built(self.yes, count, draw, deep)

    def built(self, left, count, draw, deep):
        """A tree that holds, drawn, of cases where they may be, so deep at the most; or None."""
        ends = self.ends(left, count)
        if ends and (count == 0 or deep == 0 or draw.random() < 0.3):
            return draw.choice(ends)
        if not left or count == 0 or deep == 0:
            return None
        cell = draw.choice(sorted(left))
        trees = []
        for block in self.cases(left, cell):
            trees.append(self.built(left - cells_of(block), count - 1, draw, deep - 1))
            if trees[-1] is None:
                return draw.choice(ends) if ends else None
        return ("cell", cell, trees)


def is_case(tree):
    return tree[0] == "cell" and len(tree) == 3


def places_in(tree):
    """The ways down to each tree within, itself too."""
    todo, found = [((), tree)], []
    while todo:
        way, part = todo.pop()
        found.append(way)
        if is_case(part):
            todo.extend((way + (at,), one) for at, one in enumerate(part[2]))
    return found


def tree_at(tree, way):
    for at in way:
        tree = tree[2][at]
    return tree


def put_at(tree, way, other):
    """The tree with another one at that place."""
    if not way:
        return other
    trees = list(tree[2])
    trees[way[0]] = put_at(trees[way[0]], way[1:], other)
    return (tree[0], tree[1], trees)


def count_nodes(tree):
    return len(places_in(tree))


def altered(tree, table, draw):
    """The tree with something else at one drawn place; it may hold all the same."""
    way = draw.choice(places_in(tree))
    part = tree_at(tree, way)
    anywhere = (draw.randrange(-1, len(table) + 1), draw.randrange(-1, len(table[0]) + 1))
    choices = [("rank",), ("apart", []), ("apart", [anywhere]), ("cell", anywhere, []), ("other",) + part[1:]]
    if is_case(part):
        cell, trees = part[1:]
        choices += [("cell", anywhere, trees), ("apart", cell, trees), ("cell", cell, trees[1:]),
                    ("cell", cell, trees + trees[-1:]), ("cell", cell, trees[::-1]),
                    ("cell", cell, draw.sample(trees, len(trees)))] + trees[:1]
    if part[0] == "apart" and len(part) == 2:
        cells = part[1]
        choices += [("apart", cells[::-1]), ("apart", cells[1:]), ("apart", cells + [anywhere]), ("cell", cells),
                    ("apart", cells + cells[:1]), ("rank", cells), ("apart", cells[1:] + [anywhere])]
    return put_at(tree, way, draw.choice(choices))


def drawing(*seed):
    return random.Random(repr(seed))
