"""Answers: blocks that have all yes cells, or a tree of cases that shows that there are none."""

from blockcover.blocks import Cases, has_cell, has_only_yes, is_apart_from, without, yes_cells
from blockcover.checks import is_block, is_cell, is_count, is_table, is_yes
from blockcover.rank import rank


class Answer:
    """What is told of a table and a count of blocks."""


class Covered(Answer):
    """Full blocks that have all yes cells."""

    def __init__(self, blocks):
        self.blocks = copied(blocks)

    def shows(self, table, most):
        if not is_asked(table, most) or not are_full(self.blocks, table, most):
            return False
        return all([many >= 1 for many in times_had(self.blocks, table)])


class Barred(Answer):
    """A tree of cases that shows that so many full blocks do not have all yes cells."""

    def __init__(self, tree):
        self.tree = copied(tree)

    def shows(self, table, most):
        return is_asked(table, most) and bars(self.tree, Cases(table, False), most)


class Parted(Answer):
    """Full blocks that have each yes cell, no cell in two."""

    def __init__(self, blocks):
        self.blocks = copied(blocks)

    def shows(self, table, most):
        if not is_asked(table, most) or not are_full(self.blocks, table, most):
            return False
        return all([many == 1 for many in times_had(self.blocks, table)])


class Split(Answer):
    """A tree of cases that shows that so many full blocks, no cell in two, do not have each yes cell."""

    def __init__(self, tree):
        self.tree = copied(tree)

    def shows(self, table, most):
        return is_asked(table, most) and bars(self.tree, Cases(table, True), most)


def copied(value):
    """The value with all lists copied, those within tuples and lists, too."""
    # Trees may be deeper than calls can be, so what is yet to be done stands in a list.
    done = []
    todo = [(value, False)]
    while todo:
        part, is_ready = todo.pop()
        if not isinstance(part, (list, tuple)):
            done.append(part)
        elif is_ready:
            first = len(done) - len(part)
            within = done[first:]
            del done[first:]
            done.append(within if isinstance(part, list) else tuple(within))
        else:
            todo.append((part, True))
            todo.extend([(one, False) for one in reversed(part)])
    return done[0]


def is_asked(table, most):
    """Whether there is anything to show: of what is no table or no count nothing is told."""
    return is_table(table) and is_count(most)


def are_full(blocks, table, most):
    """Whether these are at most so many full blocks of the table."""
    if len(blocks) > most:
        return False
    return all([is_block(table, block) and has_only_yes(table, block) for block in blocks])


def times_had(blocks, table):
    """For each yes cell how many of the blocks have it."""
    return [len([block for block in blocks if has_cell(block, cell)]) for cell in yes_cells(table)]


def bars(tree, cases, most):
    """Whether the tree shows that so many blocks are too few."""
    todo = [(tree, cases.table, most)]
    while todo:
        part, left, count = todo.pop()
        if is_case(part, left, count):
            trees = part[2]
            blocks = cases.blocks_at(left, part[1])
            if len(trees) != len(blocks):
                return False
            todo.extend([(one, without(left, block), count - 1) for one, block in zip(trees, blocks)])
        elif not is_end(part, cases, left, count):
            return False
    return True


def is_case(tree, left, count):
    return has_form(tree, "cell", 3) and count >= 1 and is_left(tree[1], left) and isinstance(tree[2], list)


def is_end(tree, cases, left, count):
    if has_form(tree, "apart", 2):
        return are_apart(tree[1], cases.table, left, count)
    return cases.parting and has_form(tree, "rank", 1) and rank(left) > count


def has_form(tree, first, many):
    return isinstance(tree, tuple) and len(tree) == many and tree[0] == first


def is_left(cell, left):
    return is_cell(left, cell) and is_yes(left, cell)


def are_apart(cells, table, left, count):
    """Whether these are more of the cells left than the count, all unlike, that are apart."""
    # Cells of one row are near: a longer list need not be gone through.
    if not isinstance(cells, list) or not count < len(cells) <= len(table):
        return False
    if not all([is_left(cell, left) for cell in cells]):
        return False
    # Alike cells are near, too, so that being apart they are all unlike.
    return all([is_apart_from(table, cells[:at], cell) for at, cell in enumerate(cells)])
