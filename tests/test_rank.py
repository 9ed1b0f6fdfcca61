import unittest

from blockcover.blocks import apart
from blockcover.covers import fewest_parts
from blockcover.errors import BadTable
from blockcover.rank import rank
from blockcover.tables import plain, together, turned
from reckoned import comes_of, rank_by_choice
from samples import drawn_tables, no_tables, small_tables, tables, within

SIZES = [(many, wide) for many in range(1, 6) for wide in range(1, 6)]


def some_tables():
    return small_tables() + tables(3, 4)[::13] + [table for many, wide in SIZES for table in drawn_tables(many, wide, 6)]


class RankTest(unittest.TestCase):
    def test_examples(self):
        for table, told in ((["0"], 0), (["1"], 1), (["11", "11"], 1), (["10", "01"], 2), (["11", "01"], 2),
                            (["00", "01"], 1), (["111"], 1), (["1"] * 5, 1), (["00000"] * 5, 0), (["11111"] * 5, 1),
                            (["01", "10", "11"], 2), (["110", "011", "001"], 3)):
            self.assertEqual(rank(table), told, table)

    def test_fractions_and_not_remainders(self):
        # Over remainders of 2 the three rows would come of one another.
        self.assertEqual(rank(["110", "011", "101"]), 3)
        self.assertEqual(rank(["1100", "0110", "0011", "1001"]), 3)
        self.assertEqual(rank(["011", "101", "110"]), 3)
        # The first row is a third of what the other ones are together.
        self.assertTrue(comes_of("1111", ["0111", "1011", "1101", "1110"]))
        self.assertEqual(rank(["1111", "0111", "1011", "1101", "1110"]), 4)
        self.assertEqual(rank(["111", "110", "101", "011"]), 3)
        self.assertEqual(rank(["01111", "10111", "11011", "11101", "11110"]), 5)

    def test_against_the_document(self):
        for table in some_tables():
            told = rank(table)
            self.assertIs(type(told), int)
            self.assertEqual(told, rank_by_choice(table), table)

    def test_turned_plain_and_together(self):
        for table in some_tables():
            told = rank(table)
            self.assertEqual(rank(turned(table)), told, table)
            self.assertEqual(rank(plain(table)), told, table)
            self.assertEqual(rank(table[::-1]), told, table)
        for one in small_tables(4):
            for other in drawn_tables(1, 1, 2) + drawn_tables(2, 2, 4) + drawn_tables(2, 3, 4):
                if len(one) + len(other) <= 5 and len(one[0]) + len(other[0]) <= 5:
                    self.assertEqual(rank(together(one, other)), rank(one) + rank(other))

    def test_parts_are_no_fewer(self):
        for table in within(4, small_tables()) + drawn_tables(4, 4, 60) + drawn_tables(3, 4, 60):
            self.assertGreaterEqual(fewest_parts(table), rank(table), table)
            self.assertGreaterEqual(fewest_parts(table), len(apart(table)), table)

    def test_what_is_no_table(self):
        for at, wrong in enumerate(no_tables()):
            with self.subTest(at=at), self.assertRaises(BadTable):
                rank(wrong)
