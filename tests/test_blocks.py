import itertools
import unittest

from blockcover.blocks import apart, full, greatest, near
from blockcover.errors import BadBlock, BadCell, BadTable
from samples import (all_blocks, all_cells, are_apart, cells_of, drawn_tables, full_blocks, near_pairs, no_blocks,
                     no_cells, no_tables, small_tables, tables, yes_cells)

ALL_YES = ["11111"] * 5
ALL_NO = ["00000"] * 5
ONE_EACH = ["10000", "01000", "00100", "00010", "00001"]
ALL_BUT_ONE_EACH = ["01111", "10111", "11011", "11101", "11110"]
STAIRS = ["11111", "01111", "00111", "00011", "00001"]
FIVES = [ALL_YES, ALL_NO, ONE_EACH, ALL_BUT_ONE_EACH, STAIRS]
SIZES = [(many, wide) for many in range(1, 6) for wide in range(1, 6)]


def greater_tables():
    return FIVES + [table for many, wide in SIZES if many * wide > 9 for table in drawn_tables(many, wide, 3)]


class FullTest(unittest.TestCase):
    def test_examples(self):
        table = ["110", "111"]
        self.assertIs(full(table, ([0, 1], [0, 1])), True)
        self.assertIs(full(table, ([1], [0, 1, 2])), True)
        self.assertIs(full(table, ([1], [2])), True)
        self.assertIs(full(table, ([0, 1], [1, 2])), False)
        self.assertIs(full(table, ([0], [2])), False)
        self.assertIs(full(table, ([0, 1], [0, 1, 2])), False)
        self.assertIs(full(["1"], ([0], [0])), True)
        self.assertIs(full(["0"], ([0], [0])), False)
        self.assertIs(full(["101"], ([0], [0, 2])), True)

    def test_each_block_against_its_cells(self):
        for table in small_tables() + greater_tables():
            yes = frozenset(yes_cells(table))
            for block in all_blocks(table):
                self.assertIs(full(table, block), cells_of(block) <= yes, (table, block))

    def test_what_is_no_block(self):
        for table in (["1"], ["0"], ["11", "11"], ["01", "10", "11"], ["1111"], ["1"] * 4, ALL_YES):
            for at, wrong in enumerate(no_blocks(table)):
                with self.subTest(table=table, at=at), self.assertRaises(BadBlock):
                    full(table, wrong)

    def test_no_table_goes_ahead_of_no_block(self):
        for at, wrong in enumerate(no_tables()):
            for block in (([0], [0]), ([9], [9]), None, ([], [])):
                with self.subTest(at=at, block=block), self.assertRaises(BadTable):
                    full(wrong, block)


class GreatestTest(unittest.TestCase):
    def test_examples(self):
        self.assertEqual(greatest(["1"]), [([0], [0])])
        self.assertEqual(greatest(["0"]), [])
        self.assertEqual(greatest(["11", "01"]), [([0], [0, 1]), ([0, 1], [1])])
        self.assertEqual(greatest(["110", "111", "011"]),
                         [([0, 1], [0, 1]), ([0, 1, 2], [1]), ([1], [0, 1, 2]), ([1, 2], [1, 2])])
        self.assertEqual(greatest(["10", "00", "10"]), [([0, 2], [0])])
        self.assertEqual(greatest(["01011"]), [([0], [1, 3, 4])])
        self.assertEqual(greatest(ALL_YES), [([0, 1, 2, 3, 4], [0, 1, 2, 3, 4])])
        self.assertEqual(greatest(ONE_EACH), [([at], [at]) for at in range(5)])

    def test_no_yes_cell(self):
        for many, wide in SIZES:
            self.assertEqual(greatest(["0" * wide] * many), [])

    def test_against_all_full_blocks(self):
        for table in small_tables() + tables(3, 4)[::7] + greater_tables():
            blocks = full_blocks(table)
            cells = [cells_of(block) for block in blocks]
            expected = [block for block in blocks if not any(cells_of(block) < more for more in cells)]
            self.assertEqual(greatest(table), sorted(expected), table)

    def test_all_but_one_in_each_row_and_column(self):
        told = greatest(ALL_BUT_ONE_EACH)
        self.assertEqual(len(told), 30)
        for rows, columns in told:
            self.assertEqual(sorted(rows + columns), [0, 1, 2, 3, 4])

    def test_the_kinds_of_what_is_told(self):
        for table in small_tables(6) + greater_tables():
            told = greatest(table)
            self.assertIs(type(told), list)
            self.assertTrue(all(one < other for one, other in zip(told, told[1:])))
            for block in told:
                self.assertIs(type(block), tuple)
                self.assertEqual([type(part) for part in block], [list, list])
                for part in block:
                    self.assertTrue(part and all(type(at) is int for at in part))
                    self.assertTrue(all(low < high for low, high in zip(part, part[1:])))

    def test_what_is_no_table(self):
        for at, wrong in enumerate(no_tables()):
            with self.subTest(at=at), self.assertRaises(BadTable):
                greatest(wrong)


class NearTest(unittest.TestCase):
    def test_examples(self):
        table = ["110", "011", "111"]
        self.assertIs(near(table, (0, 0), (0, 1)), True)
        self.assertIs(near(table, (0, 0), (2, 0)), True)
        self.assertIs(near(table, (0, 0), (2, 1)), True)
        self.assertIs(near(table, (0, 1), (2, 0)), True)
        self.assertIs(near(table, (0, 0), (1, 1)), False)
        self.assertIs(near(table, (0, 1), (1, 2)), False)
        self.assertIs(near(["10", "01"], (0, 0), (1, 1)), False)

    def test_all_pairs_against_all_full_blocks(self):
        for table in small_tables() + greater_tables():
            pairs = near_pairs(table)
            for one, other in itertools.product(yes_cells(table), repeat=2):
                self.assertIs(near(table, one, other), (one, other) in pairs, (table, one, other))

    def test_a_cell_with_itself(self):
        for table in small_tables(6) + greater_tables():
            for cell in yes_cells(table):
                self.assertIs(near(table, cell, cell), True)

    def test_either_way_round(self):
        for table in small_tables(6) + greater_tables():
            for one, other in itertools.combinations(yes_cells(table), 2):
                self.assertIs(near(table, one, other), near(table, other, one))

    def test_what_is_no_cell(self):
        for table in (["1"], ["11", "10", "11"], ["1111"], ["1"] * 4, ALL_YES):
            for at, wrong in enumerate(no_cells(table)):
                for one, other in ((wrong, (0, 0)), ((0, 0), wrong), (wrong, wrong)):
                    with self.subTest(table=table, at=at), self.assertRaises(BadCell):
                        near(table, one, other)

    def test_what_is_no_yes_cell(self):
        for table in small_tables(6) + greater_tables():
            yes = yes_cells(table)
            for one, other in itertools.product(all_cells(table), repeat=2):
                if one not in yes or other not in yes:
                    with self.assertRaises(BadCell):
                        near(table, one, other)

    def test_no_table_goes_ahead_of_no_cell(self):
        for at, wrong in enumerate(no_tables()):
            for one, other in (((0, 0), (0, 0)), (None, (0, 0)), ((0, 0), [0, 0]), ((9, 9), (-1, 0))):
                with self.subTest(at=at, one=one, other=other), self.assertRaises(BadTable):
                    near(wrong, one, other)


class ApartTest(unittest.TestCase):
    def check_cells(self, table, told):
        self.assertIs(type(told), list)
        self.assertTrue(all(type(cell) is tuple for cell in told))
        self.assertTrue(all(type(at) is int for cell in told for at in cell))
        self.assertTrue(all(one < other for one, other in zip(told, told[1:])), (table, told))
        self.assertLessEqual(set(told), set(yes_cells(table)), table)
        self.assertTrue(are_apart(told, near_pairs(table)), (table, told))

    def test_examples(self):
        self.assertEqual(apart(["1"]), [(0, 0)])
        self.assertEqual(apart(["10", "01"]), [(0, 0), (1, 1)])
        self.assertEqual(apart(["01", "10"]), [(0, 1), (1, 0)])
        self.assertEqual(apart(ONE_EACH), [(at, at) for at in range(5)])

    def test_how_many(self):
        for table, many in ((ALL_YES, 1), (ALL_BUT_ONE_EACH, 3), (STAIRS, 5), (["110", "011", "101"], 3),
                            (["11", "01"], 2), (["1111"], 1), (["1"] * 5, 1)):
            self.assertEqual(len(apart(table)), many, table)

    def test_no_yes_cell(self):
        for many, wide in SIZES:
            self.assertEqual(apart(["0" * wide] * many), [])

    def test_as_many_as_can_be(self):
        for table in small_tables() + tables(3, 4)[::11] + greater_tables():
            told = apart(table)
            self.check_cells(table, told)
            pairs = near_pairs(table)
            # A greater set that is apart would hold one of this size, so other sizes need no look.
            more = itertools.combinations(yes_cells(table), len(told) + 1)
            self.assertFalse(any(are_apart(cells, pairs) for cells in more), (table, told))

    def test_what_is_no_table(self):
        for at, wrong in enumerate(no_tables()):
            with self.subTest(at=at), self.assertRaises(BadTable):
                apart(wrong)
