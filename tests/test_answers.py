"""Answers made by hand: what shows tells of them."""

import unittest

from blockcover.answers import Answer, Barred, Covered, Parted, Split
from reckoned import (Trees, altered, count_nodes, drawing, fewest_covers, fewest_in_parts, greatest_blocks, places_in,
                      put_at)
from samples import HUGE, all_blocks, drawn_tables, full_blocks, no_counts, no_tables, tables, yes_cells

SQUARE = ["11", "11"]
CORNER = ["11", "10"]
BEND = ["110", "111", "011"]
TRIO = ["011", "101", "110"]
ONE_EACH = ["10000", "01000", "00100", "00010", "00001"]
ALL_BUT_ONE_IN_FOUR = ["0111", "1011", "1101", "1110"]
RING = ["1100", "0110", "0011", "1001"]
ODD = [HUGE, -HUGE, -1, -2, 5, 6, 1000]


class ClassesTest(unittest.TestCase):
    def test_they_stand_straight_under_answer(self):
        for kind in (Covered, Barred, Parted, Split):
            self.assertEqual(kind.__bases__, (Answer,))
            self.assertIn("shows", vars(kind))

    def test_fields(self):
        self.assertEqual(Covered([([0], [0])]).blocks, [([0], [0])])
        self.assertEqual(Parted(blocks=[]).blocks, [])
        self.assertEqual(Barred(("apart", [(0, 0)])).tree, ("apart", [(0, 0)]))
        self.assertEqual(Split(tree=("rank",)).tree, ("rank",))


class BlocksTest(unittest.TestCase):
    def check(self, blocks, table, most, covers, parts):
        self.assertIs(Covered(blocks).shows(table, most), covers, (table, most))
        self.assertIs(Parted(blocks).shows(table, most), parts, (table, most))

    def test_as_they_should_be(self):
        self.check([], ["0"], 0, True, True)
        self.check([], ["00", "00"], HUGE, True, True)
        self.check([([0], [0])], ["1"], 1, True, True)
        self.check([([0, 1], [0, 1])], SQUARE, 1, True, True)
        self.check([([0], [0, 1]), ([1], [0])], CORNER, 2, True, True)
        self.check([([1], [0]), ([0], [0, 1])], CORNER, 2, True, True)
        self.check([([0], [0]), ([0], [1]), ([1], [0])], CORNER, 3, True, True)
        self.check([([0], [0]), ([0], [1]), ([1], [0])], CORNER, HUGE, True, True)
        self.check([([0, 2], [0, 2])], ["101", "000", "101"], 1, True, True)

    def test_too_many(self):
        self.check([([0], [0])], ["1"], 0, False, False)
        self.check([([0], [0, 1]), ([1], [0])], CORNER, 1, False, False)
        self.check([([0], [0]), ([0], [1]), ([1], [0])], CORNER, 2, False, False)
        self.check([([0], [0])] * 3, ["1"], 2, False, False)

    def test_alike_ones_and_a_cell_in_two(self):
        self.check([([0], [0]), ([0], [0])], ["1"], 2, True, False)
        self.check([([0], [0])] * 100000, ["1"], 100000, True, False)
        self.check([([0], [0, 1]), ([0, 1], [0])], CORNER, 2, True, False)
        self.check([([0, 1], [0, 1]), ([1, 2], [1, 2])], BEND, 2, True, False)
        self.check([([0, 1], [0, 1]), ([1, 2], [2]), ([2], [1])], BEND, 3, True, True)

    def test_a_yes_cell_that_no_block_has(self):
        self.check([], ["1"], 5, False, False)
        self.check([([0], [0, 1])], CORNER, 5, False, False)
        self.check([([0], [0]), ([0], [1])], SQUARE, 5, False, False)

    def test_a_block_that_is_not_full(self):
        self.check([([0, 1], [0, 1])], CORNER, 5, False, False)
        self.check([([0], [0, 1]), ([1], [0, 1])], CORNER, 5, False, False)
        self.check([([0], [0])], ["0"], 5, False, False)
        self.check([([0], [0, 1]), ([1], [0]), ([1], [1])], CORNER, 5, False, False)

    def test_what_is_no_block_of_the_table(self):
        for wrong in (([0], [2]), ([2], [0]), ([0], []), ([], [0]), ([], []), ([1, 0], [0]), ([0], [1, 0]),
                      ([0, 0], [0]), ([0], [0, 0]), ([0, 1, 1], [0, 1]), ([0], [0, 1, 2]), ([-1], [0]), ([0], [-1]),
                      ([0, HUGE], [0]), ([-HUGE, 0], [0]), ([0], [0] * 100000), (list(range(100000)), [0]),
                      ([0], [HUGE]), ([-2, -1], [-2, -1]), ([-1, 0], [0, 1]), ([1, 0], [1, 0])):
            self.check([wrong], SQUARE, 5, False, False)
            self.check([([0, 1], [0, 1]), wrong], SQUARE, HUGE, False, False)
            self.check([wrong, ([0, 1], [0, 1])], SQUARE, 2, False, False)
            self.check([([0], [0, 1]), wrong, ([1], [0, 1])], SQUARE, 5, False, False)

    def test_numbers_of_any_sign_and_size(self):
        for one in ODD:
            for other in ODD + [0]:
                self.check([([one], [other])], ["1"], HUGE, False, False)
                self.check([([0], [0]), ([other], [one])], ["1"], HUGE, False, False)

    def test_all_pairs_of_blocks(self):
        for table in tables(2, 2) + tables(2, 3)[::9] + tables(3, 2)[::9]:
            full = full_blocks(table)
            blocks = all_blocks(table)
            for one in blocks:
                for other in blocks:
                    cells = [(row, column) for told in (one, other) for row in told[0] for column in told[1]]
                    covers = one in full and other in full and set(cells) == set(yes_cells(table))
                    self.check([one, other], table, 2, covers, covers and len(set(cells)) == len(cells))
                    self.check([one, other], table, 1, False, False)


class TreesTest(unittest.TestCase):
    def check(self, tree, table, most, bars, splits):
        self.assertIs(Barred(tree).shows(table, most), bars, (table, most))
        self.assertIs(Split(tree).shows(table, most), splits, (table, most))

    def test_apart(self):
        self.check(("apart", [(0, 0)]), ["1"], 0, True, True)
        self.check(("apart", [(0, 0)]), SQUARE, 0, True, True)
        self.check(("apart", [(0, 1), (1, 0)]), CORNER, 1, True, True)
        self.check(("apart", [(1, 0), (0, 1)]), CORNER, 1, True, True)
        self.check(("apart", [(1, 0), (0, 1)]), CORNER, 0, True, True)
        self.check(("apart", [(2, 1), (0, 2), (1, 0)]), TRIO, 2, True, True)

    def test_as_many_as_the_count_and_no_more(self):
        self.check(("apart", [(0, 0)]), ["1"], 1, False, False)
        self.check(("apart", [(0, 1), (1, 0)]), CORNER, 2, False, False)
        self.check(("apart", [(0, 1), (1, 0)]), CORNER, HUGE, False, False)
        self.check(("apart", []), ["0"], 0, False, False)
        self.check(("apart", []), ["1"], 0, False, False)
        self.check(("apart", [(2, 1), (0, 2), (1, 0)]), TRIO, 3, False, False)

    def test_cells_twice(self):
        self.check(("apart", [(0, 0), (0, 0)]), ["1"], 0, False, False)
        self.check(("apart", [(0, 0), (0, 0)]), ["1"], 1, False, False)
        self.check(("apart", [(0, 1), (1, 0), (0, 1)]), CORNER, 1, False, False)
        self.check(("apart", [(0, 0)] * 100000), ["1"], 5, False, False)

    def test_cells_that_are_near(self):
        self.check(("apart", [(0, 0), (1, 1)]), SQUARE, 1, False, False)
        self.check(("apart", [(0, 0), (0, 1)]), ["11"], 1, False, False)
        self.check(("apart", [(0, 0), (1, 0)]), ["1", "1"], 0, False, False)
        self.check(("apart", [(0, 1), (1, 0), (0, 0)]), CORNER, 1, False, False)

    def test_cells_that_are_no_yes_cells_of_the_table(self):
        self.check(("apart", [(1, 1)]), CORNER, 0, False, False)
        self.check(("apart", [(0, 0)]), ["0"], 0, False, False)
        for one in ODD:
            for cell in ((one, 0), (0, one), (one, one)):
                self.check(("apart", [cell]), SQUARE, 0, False, False)
                self.check(("apart", [(0, 1), (1, 0), cell]), CORNER, 1, False, False)
                self.check(("cell", cell, [("apart", [(0, 0)])]), SQUARE, 1, False, False)
                self.check(("cell", cell, []), SQUARE, HUGE, False, False)
        # Counted from the end, these would be yes cells.
        self.check(("apart", [(-1, -1)]), SQUARE, 0, False, False)
        self.check(("cell", (-1, 0), [("apart", [(1, 0)])]), CORNER, 1, False, False)

    def test_cases(self):
        # The cell (0, 1) is in one greatest block alone, and in two full ones.
        self.check(("cell", (0, 1), [("apart", [(1, 0)])]), CORNER, 1, True, False)
        two = [("apart", [(1, 0)]), ("apart", [(1, 0)])]
        self.check(("cell", (0, 1), two), CORNER, 1, False, True)
        self.check(("cell", (0, 1), two), CORNER, 2, False, False)
        # The cell (0, 0) is in two greatest blocks, and in three full ones.
        cases = [("apart", [(1, 0)]), ("apart", [(0, 1)])]
        self.check(("cell", (0, 0), cases), CORNER, 1, True, False)
        self.check(("cell", (0, 0), cases[::-1]), CORNER, 1, False, False)
        parts = [("apart", [(1, 0)]), ("apart", [(1, 0)]), ("apart", [(0, 1)])]
        self.check(("cell", (0, 0), parts), CORNER, 1, False, True)
        self.check(("cell", (0, 0), parts[::-1]), CORNER, 1, False, False)

    def test_a_case_too_few_or_too_many(self):
        end = ("apart", [(1, 0)])
        for trees in ([], [end] * 2, [end] * 3, [end] * 9999):
            self.check(("cell", (0, 1), trees), CORNER, 1, False, trees == [end] * 2)
        self.check(("cell", (0, 0), []), ["1"], 1, False, False)
        self.check(("cell", (0, 0), [end]), ["0"], 1, False, False)

    def test_the_order_of_cases(self):
        table = ["110", "011"]
        # Greatest blocks of (0, 1): row 0 with columns 0 and 1; rows 0 and 1 with column 1.
        self.assertEqual([block for block in greatest_blocks(table) if 0 in block[0] and 1 in block[1]],
                         [([0], [0, 1]), ([0, 1], [1])])
        first, second = ("apart", [(1, 1)]), ("apart", [(0, 0), (1, 2)])
        self.check(("cell", (0, 1), [first, second]), table, 1, True, False)
        self.check(("cell", (0, 1), [second, first]), table, 1, False, False)
        # Full ones: ([0], [0, 1]), ([0], [1]), ([0, 1], [1]).
        parts = [("apart", [(1, 1)]), ("apart", [(0, 0), (1, 2)]), ("apart", [(0, 0)])]
        self.check(("cell", (0, 1), parts), table, 1, False, True)
        self.check(("cell", (0, 1), parts[1:] + parts[:1]), table, 1, False, False)

    def test_a_count_of_0_at_a_cell(self):
        for trees in ([], [("apart", [(0, 0)])], [("apart", [])]):
            self.check(("cell", (0, 0), trees), ["1"], 0, False, False)
        self.check(("cell", (0, 1), [("apart", [(1, 0)])]), CORNER, 0, False, False)
        self.check(("cell", (0, 1), [("apart", [(1, 0)])] * 2), CORNER, 0, False, False)
        inner = ("cell", (1, 1), [("apart", [(2, 2)])])
        self.check(("cell", (0, 0), [inner]), ["100", "010", "001"], 1, False, False)
        self.check(("cell", (0, 0), [inner]), ["100", "010", "001"], 2, True, True)

    def test_a_cell_that_is_not_left(self):
        table = ["100", "010", "001"]
        for cell, holds in (((1, 1), True), ((2, 2), True), ((0, 0), False), ((0, 1), False)):
            other = (3 - cell[0], 3 - cell[0])
            self.check(("cell", (0, 0), [("cell", cell, [("apart", [other])])]), table, 2, holds, holds)
        self.check(("cell", (0, 0), [("apart", [(0, 0), (1, 1)])]), table, 1, False, False)
        self.check(("cell", (0, 0), [("apart", [(2, 2), (1, 1)])]), table, 1, True, True)
        self.check(("cell", (0, 0), [("apart", [(0, 0)])]), SQUARE, 1, False, False)

    def test_all_cells_had_already(self):
        for end in (("apart", []), ("apart", [(0, 0)]), ("rank",), ("cell", (0, 0), []), ("cell", (0, 0), [("rank",)])):
            for most in (0, 1, 2, HUGE):
                self.check(end, ["0"], most, False, False)
                self.check(("cell", (0, 0), [end]), ["1"], most, False, False)

    def test_another_text_as_the_first(self):
        for text in ("", "Apart", "APART", "apart ", "rank", "cell", "cells", "a", "\ud800", "apart\n", "x" * 100000):
            self.check((text, [(0, 0)]), ["1"], 0, False, False)
        for text in ("", "Cell", "apart", "rank", "cells", " cell", "x" * 100000):
            self.check((text, (0, 1), [("apart", [(1, 0)])]), CORNER, 1, False, False)
            self.check((text, (0, 1), [("apart", [(1, 0)])] * 2), CORNER, 1, False, False)
        for text in ("", "apart", "cell", "Rank", "ranks", "rank "):
            self.check((text,), SQUARE, 0, False, False)

    def test_rank(self):
        self.check(("rank",), ["1"], 0, False, True)
        self.check(("rank",), ["1"], 1, False, False)
        self.check(("rank",), ["0"], 0, False, False)
        self.check(("rank",), BEND, 2, False, True)
        self.check(("rank",), BEND, 3, False, False)
        self.check(("rank",), TRIO, 2, False, True)
        self.check(("rank",), RING, 2, False, True)
        self.check(("rank",), RING, 3, False, False)
        self.check(("rank",), ["1111"] * 4, HUGE, False, False)

    def test_rank_of_the_cells_left(self):
        # The whole table has rank 2, what is left has 1.
        self.check(("cell", (0, 0), [("rank",)]), ["10", "01"], 2, False, False)
        self.check(("cell", (0, 0), [("rank",)]), ["10", "01"], 1, False, True)
        # The whole table has rank 3, which is not more than 3; what is left has 4, 3 and 3.
        self.check(("rank",), RING, 3, False, False)
        self.check(("cell", (0, 0), [("rank",)] * 3), RING, 3, False, True)
        self.check(("cell", (1, 2), [("rank",)] * 2), ["100", "011"], 1, False, True)
        self.check(("cell", (1, 2), [("rank",)] * 2), ["100", "011"], 2, False, False)
        self.check(("cell", (1, 2), [("rank",), ("apart", [(0, 0)])]), ["100", "011"], 1, False, True)

    def test_rank_in_a_branch_of_barred(self):
        self.check(("cell", (0, 0), [("rank",)]), ["10", "01"], 1, False, True)
        self.check(("cell", (0, 0), [("apart", [(1, 1)])]), ["10", "01"], 1, True, True)

    def test_apart_goes_by_the_whole_table_in_parting_too(self):
        blocks = sorted(block for block in full_blocks(BEND) if 1 in block[0] and 1 in block[1])
        ends = [("rank",)] * len(blocks)
        self.check(("cell", (1, 1), ends), BEND, 2, False, True)
        # Near they are in the table, though of the cells left no full block has both.
        for cells, holds in (([(0, 0), (1, 2)], True), ([(0, 1), (1, 0)], False), ([(1, 2), (2, 1)], False)):
            ends[blocks.index(([1], [1]))] = ("apart", cells)
            self.check(("cell", (1, 1), ends), BEND, 2, False, holds)

    def test_a_wrong_end_far_down_in_one_branch_alone(self):
        draw = drawing("far down")
        for table, parting, most in ((ALL_BUT_ONE_IN_FOUR, False, 3), (ONE_EACH, False, 4), (BEND, True, 2),
                                     (TRIO, True, 2), (RING, True, 3), (["111", "011", "001"], False, 2)):
            trees, kind = Trees(table, parting), Split if parting else Barred
            built = [tree for tree in (trees.build(most, draw, 3) for _ in range(60)) if tree]
            tree = max(built, key=count_nodes)
            self.assertIs(kind(tree).shows(table, most), True)
            ways = places_in(tree)
            self.assertGreater(len(ways), 2)
            for way in ways:
                for wrong in (("apart", []), ("apart", [(9, 9)]), ("other",), ("cell", (0, 0), [])):
                    self.assertIs(kind(put_at(tree, way, wrong)).shows(table, most), False, (table, way))

    def test_drawn_trees_against_the_document(self):
        draw = drawing("trees")
        asked = tables(2, 2) + drawn_tables(2, 3, 8) + drawn_tables(3, 3, 12) + [BEND, TRIO, RING, CORNER, SQUARE]
        held = {True: 0, False: 0}
        for table in asked + [ALL_BUT_ONE_IN_FOUR]:
            for parting, kind, least in ((False, Barred, fewest_covers(table)), (True, Split, fewest_in_parts(table))):
                trees = Trees(table, parting)
                for _ in range(25):
                    count = draw.randrange(4)
                    tree = trees.build(count, draw, 2 if parting else 3) or ("cell", (0, 0), [("apart", [(0, 0)])])
                    for _ in range(3):
                        holds = trees.hold(tree, count)
                        self.assertIs(kind(tree).shows(table, count), holds, (table, tree, count))
                        # What a tree of cases shows is so: there are no such blocks.
                        self.assertFalse(holds and count >= least, (table, tree, count))
                        held[holds] += 1
                        tree = altered(tree, table, draw)
        self.assertTrue(held[True] > 300 and held[False] > 300, held)


class OtherQuestionsTest(unittest.TestCase):
    def test_no_error_somewhat_beyond_the_limits(self):
        six, five = ["111111"] * 6, ["11111"] * 5
        for answer in (Covered([([0], [0])]), Parted([([0], [0])]), Barred(("apart", [(0, 0)])), Split(("rank",))):
            self.assertIn(answer.shows(six, 0), (True, False))
            self.assertIn(answer.shows(five, 0), (True, False))

    def test_of_what_is_no_table_or_no_count_nothing_is_shown(self):
        answers = [Covered([]), Parted([]), Barred(("apart", [(0, 0)])), Split(("rank",))]
        for answer in answers:
            for at, wrong in enumerate(no_tables()):
                with self.subTest(at=at):
                    self.assertIs(answer.shows(wrong, 0), False)
            for at, wrong in enumerate(no_counts()):
                with self.subTest(at=at):
                    self.assertIs(answer.shows(["1"], wrong), False)

    def test_true_and_false_are_no_numbers(self):
        self.assertIs(Covered([([False], [0])]).shows(["1"], 1), False)
        self.assertIs(Parted([([0], [0, True])]).shows(["11"], 1), False)
        self.assertIs(Barred(("apart", [(0, False)])).shows(["1"], 0), False)
        self.assertIs(Split(("cell", (0, True), [("rank",)] * 2)).shows(CORNER, 1), False)
