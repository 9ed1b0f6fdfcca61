"""The fields of answers: copied when made, asked as they stand; trees of any depth."""

import copy
import unittest

from blockcover.answers import Barred, Covered, Parted, Split
from reckoned import Trees, count_nodes
from samples import HUGE, cells_of

CORNER = ["11", "10"]
ONE_EACH = ["10000", "01000", "00100", "00010", "00001"]
STAIRS = ["1111", "0111", "0011", "0001"]
DEPTH = 10000


def lists_in(value):
    """All lists within, one that stands in several places so often; of any depth."""
    todo, found = [value], []
    while todo:
        part = todo.pop()
        if isinstance(part, list):
            found.append(part)
        if isinstance(part, (list, tuple)):
            todo.extend(part)
    return found


def chain(cell, end, depth=DEPTH):
    tree = end
    for _ in range(depth - 1):
        tree = ("cell", cell, [tree])
    return tree


def depth_of(tree):
    depth = 1
    while tree[0] == "cell":
        tree, depth = tree[2][0], depth + 1
    return depth


class CopiedTest(unittest.TestCase):
    def test_blocks_may_be_changed_behind_it(self):
        for kind in (Covered, Parted):
            blocks = [([0], [0, 1]), ([1], [0])]
            answer = kind(blocks)
            for change in (lambda: blocks[0][1].append(5), lambda: blocks[1][0].clear(), lambda: blocks.pop(),
                           lambda: blocks[0][0].insert(0, 7), lambda: blocks.append(([0], [0])), blocks.clear):
                change()
                self.assertEqual(answer.blocks, [([0], [0, 1]), ([1], [0])])
                self.assertIs(answer.shows(CORNER, 2), True)

    def test_trees_may_be_changed_behind_it(self):
        for kind, many in ((Barred, 1), (Split, 2)):
            ends = [("apart", [(1, 0)]) for _ in range(many)]
            tree = ("cell", (0, 1), ends)
            answer, before = kind(tree), copy.deepcopy(tree)
            for change in (lambda: ends[0][1].clear(), lambda: ends[-1][1].append((9, 9)),
                           lambda: ends.append(("rank",)), ends.reverse, ends.clear):
                change()
                self.assertEqual(answer.tree, before)
                self.assertIs(answer.shows(CORNER, 1), True)

    def test_changing_the_field_leaves_what_it_was_made_of(self):
        blocks, tree = [([0], [0, 1]), ([1], [0])], ("cell", (0, 1), [("apart", [(1, 0)])])
        for answer in (Covered(blocks), Parted(blocks), Barred(tree), Split(tree)):
            field = answer.blocks if isinstance(answer, (Covered, Parted)) else answer.tree
            for one in lists_in(field):
                one.append("spoilt")
            self.assertEqual(blocks, [([0], [0, 1]), ([1], [0])])
            self.assertEqual(tree, ("cell", (0, 1), [("apart", [(1, 0)])]))

    def test_a_list_that_stands_in_several_places(self):
        rows = [0]
        block = (rows, rows)
        for kind in (Covered, Parted):
            blocks = [block, block]
            told = lists_in(kind(blocks).blocks)
            self.assertEqual(len({id(one) for one in told}), 5)
            self.assertEqual(kind(blocks).blocks, [([0], [0]), ([0], [0])])
        end = ("apart", [(0, 0)])
        tree = ("cell", (0, 0), [end, ("cell", (0, 1), [end, end]), end])
        for kind in (Barred, Split):
            told = lists_in(kind(tree).tree)
            self.assertEqual(len({id(one) for one in told}), 6)
            self.assertFalse({id(one) for one in told} & {id(one) for one in lists_in(tree)})
            self.assertEqual(kind(tree).tree, tree)

    def test_kinds_of_the_field(self):
        tree = ("cell", (0, 1), [("apart", [(1, HUGE)]), ("other",), ("", [])])
        for kind in (Barred, Split):
            told = kind(tree).tree
            self.assertEqual([type(part) for part in told], [str, tuple, list])
            self.assertEqual([type(part) for part in told[2]], [tuple, tuple, tuple])
            self.assertEqual([type(part) for part in told[2][0][1]], [tuple])
        for kind in (Covered, Parted):
            told = kind([([0], []), ([], [-HUGE])]).blocks
            self.assertEqual([type(block) for block in told], [tuple, tuple])
            self.assertEqual([type(part) for block in told for part in block], [list] * 4)

    def test_made_of_another_ones_field(self):
        one = Covered([([0], [0, 1]), ([1], [0])])
        other = Parted(one.blocks)
        one.blocks[0][1].clear()
        self.assertIs(one.shows(CORNER, 2), False)
        self.assertIs(other.shows(CORNER, 2), True)


class AsItStandsTest(unittest.TestCase):
    def test_blocks_changed(self):
        for kind in (Covered, Parted):
            answer = kind([])
            self.assertIs(answer.shows(CORNER, 2), False)
            answer.blocks.append(([0], [0, 1]))
            self.assertIs(answer.shows(CORNER, 2), False)
            answer.blocks.append(([1], [0]))
            self.assertIs(answer.shows(CORNER, 2), True)
            answer.blocks[1][1].append(1)
            self.assertIs(answer.shows(CORNER, 2), False)
            answer.blocks = [([0], [0]), ([1], [0]), ([0], [1])]
            self.assertIs(answer.shows(CORNER, 2), False)
            self.assertIs(answer.shows(CORNER, 3), True)
            del answer.blocks[0]
            self.assertIs(answer.shows(CORNER, 3), False)

    def test_trees_changed(self):
        for kind, many in ((Barred, 1), (Split, 2)):
            answer = kind(("cell", (0, 1), []))
            self.assertIs(answer.shows(CORNER, 1), False)
            for _ in range(many):
                answer.tree[2].append(("apart", [(1, 0)]))
            self.assertIs(answer.shows(CORNER, 1), True)
            answer.tree[2][0][1][0] = (0, 1)
            self.assertIs(answer.shows(CORNER, 1), False)
            answer.tree = ("apart", [(0, 1), (1, 0)])
            self.assertIs(answer.shows(CORNER, 1), True)
            answer.tree[1].pop()
            self.assertIs(answer.shows(CORNER, 1), False)

    def test_shows_changes_nothing_and_tells_the_same_again(self):
        blocks, tree = [([0], [0, 1]), ([1], [0])], ("cell", (0, 1), [("apart", [(1, 0)])])
        for answer, field in ((Covered(blocks), "blocks"), (Parted(blocks), "blocks"), (Barred(tree), "tree"),
                              (Split(tree), "tree")):
            kept, before, table = getattr(answer, field), copy.deepcopy(getattr(answer, field)), list(CORNER)
            told = [answer.shows(table, most) for most in (0, 1, 2, HUGE)]
            self.assertEqual([answer.shows(table, most) for most in (0, 1, 2, HUGE)], told)
            self.assertEqual((getattr(answer, field), table), (before, CORNER))
            self.assertIs(getattr(answer, field), kept)


class DepthTest(unittest.TestCase):
    def test_one_below_another(self):
        for kind in (Barred, Split):
            for end in (("apart", [(0, 0)]), ("rank",), ("other",), ("cell", (0, 0), [])):
                for cell in ((0, 0), (1, 1), (-1, 0), (HUGE, -HUGE)):
                    tree = chain(cell, end)
                    answer = kind(tree)
                    self.assertEqual(len(lists_in(answer.tree)), len(lists_in(tree)))
                    for table in (["1"], ["0"], CORNER, STAIRS):
                        for most in (0, 1, 4, DEPTH, HUGE):
                            self.assertIs(answer.shows(table, most), False)

    def test_a_deep_field_is_a_copy(self):
        for kind in (Barred, Split):
            tree = chain((0, 0), ("apart", [(0, 0)]))
            answer = kind(tree)
            self.assertEqual(depth_of(answer.tree), DEPTH)
            told, given = lists_in(answer.tree), lists_in(tree)
            self.assertEqual(len({id(one) for one in told + given}), 2 * DEPTH)
            for one in given:
                one.clear()
            self.assertEqual(depth_of(answer.tree), DEPTH)
            again = kind(answer.tree)
            self.assertEqual(depth_of(again.tree), DEPTH)

    def test_deep_below_cases_that_hold(self):
        for kind in (Barred, Split):
            deep = chain((0, 0), ("rank",), DEPTH - 5)
            wrong, right = deep, ("apart", [(4, 4)])
            for at in (4, 3, 2, 1, 0):
                wrong = ("cell", (at, at), [wrong])
            for at in (3, 2, 1, 0):
                right = ("cell", (at, at), [right])
            for most in (0, 1, 4, 5, 6, HUGE):
                self.assertIs(kind(wrong).shows(ONE_EACH, most), False)
                self.assertIs(kind(right).shows(ONE_EACH, most), most == 4)

    def test_a_deep_branch_beside_short_ones(self):
        short, deep = ("apart", [(0, 1)]), chain((0, 0), ("apart", [(0, 0)]), DEPTH - 3)
        for kind in (Barred, Split):
            for trees in ([short, deep], [deep, short], [short, deep, short], [short] * 5 + [deep]):
                self.assertIs(kind(("cell", (0, 0), trees)).shows(CORNER, 1), False)
                self.assertIs(kind(("cell", (0, 0), trees)).shows(CORNER, HUGE), False)

    def test_wide_trees(self):
        for kind in (Barred, Split):
            for trees in ([("rank",)] * (DEPTH - 1), [("apart", [(1, 0)])] * (DEPTH - 1)):
                self.assertIs(kind(("cell", (0, 1), trees)).shows(CORNER, 1), False)
            self.assertIs(kind(("apart", [(0, 1)] * 100000)).shows(CORNER, 0), False)

    def test_many_cases_that_hold(self):
        sizes = []
        for parting, kind, table, most in ((True, Split, STAIRS, 3), (True, Split, ["111", "011", "110"], 2),
                                           (False, Barred, ONE_EACH, 4), (False, Barred, STAIRS, 3),
                                           (False, Barred, ["01111", "10111", "11011", "11101", "11110"], 3),
                                           (False, Barred, ["00111", "01011", "10011", "11101", "11110"], 4)):
            trees = Trees(table, parting)
            tree = down_to_none(trees, trees.yes, most)
            sizes.append(count_nodes(tree))
            self.assertIs(kind(tree).shows(table, most), True)
            self.assertIs(kind(tree).shows(table, most + 1), False)
            self.assertIs(kind(tree).shows(table, most - 1), False)
        self.assertTrue(100 < max(sizes) <= DEPTH, sizes)


def down_to_none(trees, left, count):
    """A tree of cases down to the count of 0, at the last of the cells left each time."""
    cell = max(left)
    if count == 0:
        return ("apart", [cell])
    return ("cell", cell, [down_to_none(trees, left - cells_of(block), count - 1)
                           for block in trees.cases(left, cell)])
