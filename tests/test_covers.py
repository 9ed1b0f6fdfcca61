import unittest

from blockcover.answers import Answer, Barred, Covered, Parted, Split
from blockcover.blocks import apart
from blockcover.covers import covered, fewest, fewest_parts, how_many_parts, parted
from blockcover.errors import BadCount, BadTable, TooGreat
from blockcover.tables import changed, plain, together, turned
from reckoned import Trees, count_nodes, fewest_covers, fewest_in_parts, ways_by_count
from samples import (HUGE, all_cells, cells_of, drawn_tables, full_blocks, no_counts, no_tables, small_tables, tables,
                     within, yes_cells)

ONE_EACH = ["10000", "01000", "00100", "00010", "00001"]
ALL_BUT_ONE_EACH = ["01111", "10111", "11011", "11101", "11110"]
STAIRS = ["11111", "01111", "00111", "00011", "00001"]
WITHOUT_APART = ["00111", "01011", "10011", "11101", "11110"]
FIVES = [["11111"] * 5, ["00000"] * 5, ONE_EACH, ALL_BUT_ONE_EACH, STAIRS, WITHOUT_APART]
ALL_BUT_ONE_IN_FOUR = ["0111", "1011", "1101", "1110"]
RING = ["1100", "0110", "0011", "1001"]
FOURS = [["1111"] * 4, ["0000"] * 4, ALL_BUT_ONE_IN_FOUR, RING, ["1110", "1111", "0111", "1101"]]


def fours():
    greater = [table for many, wide in ((2, 4), (3, 4), (4, 2), (4, 3)) for table in drawn_tables(many, wide, 40)]
    return within(4, small_tables(6)) + tables(3, 3)[::2] + greater + drawn_tables(4, 4, 80) + FOURS


def fives():
    greater = [(many, wide) for many in range(1, 6) for wide in range(1, 6) if many == 5 or wide == 5]
    return FIVES + [table for many, wide in greater for table in drawn_tables(many, wide, 4)] + drawn_tables(5, 5, 30)


def counts_around(least):
    return list(range(least + 3)) + [least + 20, 10 ** 9, HUGE]


def shows_blocks(blocks, table, most, parting):
    """As points 7 and 10 tell it, of blocks that are blocks of the table."""
    full = full_blocks(table)
    had = [cell for block in blocks for cell in cells_of(block)]
    if len(blocks) > most or not all(block in full for block in blocks) or set(had) != set(yes_cells(table)):
        return False
    return not parting or len(set(had)) == len(had)


def check_other_questions(test, ask, parting):
    """Each answer asked of other tables and counts than its own."""
    asked = tables(2, 2) + tables(2, 3)[::5] + drawn_tables(3, 3, 10) + drawn_tables(4, 4, 3) + FOURS[2:]
    trees = [Trees(table, parting) for table in asked]
    for table in asked[::2] + FOURS:
        for count in range(5):
            told = ask(table, count)
            for other, looked_at in zip(asked, trees):
                for most in range(6):
                    if isinstance(told, (Covered, Parted)):
                        expected = shows_blocks(told.blocks, other, most, parting)
                    else:
                        expected = looked_at.hold(told.tree, most)
                    test.assertIs(told.shows(other, most), expected, (table, count, other, most))


class CoveredTest(unittest.TestCase):
    def test_examples(self):
        self.assertEqual(covered(["0"], 0).blocks, [])
        self.assertEqual(covered(["1"], 1).blocks, [([0], [0])])
        self.assertEqual(covered(["1"], 0).tree, ("apart", [(0, 0)]))
        self.assertEqual(covered(["11111"] * 5, 1).blocks, [([0, 1, 2, 3, 4], [0, 1, 2, 3, 4])])
        self.assertEqual(sorted(covered(["11", "01"], 2).blocks), [([0], [0, 1]), ([0, 1], [1])])

    def test_against_the_fewest(self):
        for table in fours() + fives():
            least = fewest_covers(table)
            for count in counts_around(least):
                told = covered(table, count)
                self.assertIs(type(told), Covered if count >= least else Barred, (table, count))
                self.assertIsInstance(told, Answer)
                self.assertIs(told.shows(table, count), True, (table, count))
                self.check_form(table, count, told)

    def check_form(self, table, count, told):
        if isinstance(told, Covered):
            self.assertTrue(shows_blocks(told.blocks, table, count, False), (table, count))
        else:
            self.assertTrue(Trees(table, False).hold(told.tree, count), (table, count))
            self.assertLessEqual(count_nodes(told.tree), 10000)

    def test_a_tree_of_cases_is_needed(self):
        # Fewer cells are apart than blocks are needed.
        for table, count, many in ((ALL_BUT_ONE_IN_FOUR, 3, 3), (ALL_BUT_ONE_EACH, 3, 3), (WITHOUT_APART, 4, 4)):
            self.assertEqual(len(apart(table)), many)
            self.assertEqual(covered(table, count).tree[0], "cell")
            self.assertIs(covered(table, count).shows(table, count), True)

    def test_shows_of_other_tables_and_counts(self):
        check_other_questions(self, covered, False)


class FewestTest(unittest.TestCase):
    def test_examples(self):
        for table, least in ((["0"], 0), (["1"], 1), (["00", "00"], 0), (["11", "11"], 1), (["10", "01"], 2),
                             (ONE_EACH, 5), (STAIRS, 5), (["11111"] * 5, 1), (ALL_BUT_ONE_EACH, 4),
                             (ALL_BUT_ONE_IN_FOUR, 4), (["011", "101", "110"], 3), (["10101"], 1), (["1"] * 5, 1),
                             (WITHOUT_APART, 5), (["110", "111", "011"], 2)):
            self.assertEqual(fewest(table), least, table)

    def test_the_least_count_of_which_covered_is_told(self):
        for table in fours() + fives():
            told = fewest(table)
            self.assertIs(type(told), int)
            self.assertEqual(told, fewest_covers(table), table)
            self.assertIs(type(covered(table, told)), Covered)
            self.assertTrue(told == 0 or type(covered(table, told - 1)) is Barred)

    def test_no_fewer_than_cells_that_are_apart(self):
        for table in fours() + fives():
            self.assertGreaterEqual(fewest(table), len(apart(table)), table)

    def test_changed_at_a_cell(self):
        for table in drawn_tables(3, 3, 20) + drawn_tables(4, 4, 10) + drawn_tables(5, 5, 5) + FIVES:
            for cell in all_cells(table):
                self.assertLessEqual(abs(fewest(changed(table, cell)) - fewest(table)), 1, (table, cell))

    def test_together_turned_and_plain(self):
        for one in tables(2, 2) + drawn_tables(3, 2, 8) + drawn_tables(2, 3, 8):
            for other in tables(2, 2) + drawn_tables(2, 1, 4) + [["1"], ["0"]]:
                self.assertEqual(fewest(together(one, other)), fewest(one) + fewest(other), (one, other))
                self.assertEqual(fewest(together(other, one)), fewest(one) + fewest(other), (one, other))
        for table in drawn_tables(4, 4, 10) + drawn_tables(5, 4, 10) + FIVES:
            self.assertEqual(fewest(turned(table)), fewest(table), table)
            self.assertEqual(fewest(plain(table)), fewest(table), table)


class PartedTest(unittest.TestCase):
    def test_examples(self):
        self.assertEqual(parted(["0"], 0).blocks, [])
        self.assertEqual(parted(["1"], 1).blocks, [([0], [0])])
        self.assertEqual(parted(["1111"] * 4, 1).blocks, [([0, 1, 2, 3], [0, 1, 2, 3])])
        self.assertIn(parted(["1"], 0).tree, (("apart", [(0, 0)]), ("rank",)))
        # Two blocks cover it, and one lies over the other: parts are three.
        self.assertIs(type(covered(["110", "111", "011"], 2)), Covered)
        self.assertIs(type(parted(["110", "111", "011"], 2)), Split)
        self.assertIs(type(parted(["110", "111", "011"], 3)), Parted)

    def test_against_the_fewest(self):
        for table in fours():
            least = fewest_in_parts(table)
            trees = Trees(table, True)
            for count in counts_around(least):
                told = parted(table, count)
                self.assertIs(type(told), Parted if count >= least else Split, (table, count))
                self.assertIs(told.shows(table, count), True, (table, count))
                if isinstance(told, Parted):
                    self.assertTrue(shows_blocks(told.blocks, table, count, True), (table, count))
                else:
                    self.assertTrue(trees.hold(told.tree, count), (table, count))
                    self.assertLessEqual(count_nodes(told.tree), 10000)

    def test_the_fewest_are_told(self):
        for table in fours():
            told = fewest_parts(table)
            self.assertIs(type(told), int)
            self.assertEqual(told, fewest_in_parts(table), table)
            self.assertGreaterEqual(told, fewest(table), table)
        for table, least in ((["0"], 0), (["1111"], 1), (["1"] * 4, 1), (["110", "111", "011"], 3), (RING, 4),
                             (["0000"] * 4, 0), (["1111"] * 4, 1), (["11", "01"], 2), (ALL_BUT_ONE_IN_FOUR, 4)):
            self.assertEqual(fewest_parts(table), least, table)

    def test_together_turned_and_plain(self):
        for one in tables(2, 2):
            for other in tables(2, 2) + [["1"], ["0"], ["11"], ["1", "1"]]:
                self.assertEqual(fewest_parts(together(one, other)), fewest_parts(one) + fewest_parts(other))
        for table in drawn_tables(4, 4, 20):
            self.assertEqual(fewest_parts(turned(table)), fewest_parts(table), table)
            self.assertEqual(fewest_parts(plain(table)), fewest_parts(table), table)

    def test_shows_of_other_tables_and_counts(self):
        check_other_questions(self, parted, True)


class HowManyPartsTest(unittest.TestCase):
    def test_examples(self):
        for table, many, told in ((["0"], 0, 1), (["0"], 1, 0), (["1"], 0, 0), (["1"], 1, 1), (["1"], 2, 0),
                                  (["11"], 1, 1), (["11"], 2, 1), (["11"], 3, 0), (["11", "11"], 1, 1),
                                  (["11", "11"], 2, 2), (["11", "11"], 3, 4), (["11", "11"], 4, 1),
                                  (["11", "01"], 2, 2), (["11", "01"], 3, 1), (["11", "01"], 1, 0),
                                  (["101"], 1, 1), (["101"], 2, 1), (["111"], 2, 3), (["000"] * 3, 0, 1)):
            self.assertEqual(how_many_parts(table, many), told, (table, many))

    def test_against_all_ways(self):
        for table in within(3, small_tables()):
            ways = ways_by_count(table)
            for many in list(range(11)) + [10 ** 9, HUGE]:
                told = how_many_parts(table, many)
                self.assertIs(type(told), int)
                self.assertEqual(told, ways.get(many, 0), (table, many))

    def test_the_least_count_with_a_way_is_the_fewest(self):
        for table in within(3, small_tables()):
            least = fewest_parts(table)
            self.assertGreater(how_many_parts(table, least), 0, table)
            self.assertTrue(all(how_many_parts(table, many) == 0 for many in range(least)), table)


class RefusalTest(unittest.TestCase):
    def test_what_is_no_table(self):
        for at, wrong in enumerate(no_tables()):
            for ask in (fewest, fewest_parts):
                with self.subTest(at=at, ask=ask.__name__), self.assertRaises(BadTable):
                    ask(wrong)
            for ask in (covered, parted, how_many_parts):
                for count in (0, 1, HUGE, -1, None, True):
                    with self.subTest(at=at, ask=ask.__name__), self.assertRaises(BadTable):
                        ask(wrong, count)

    def test_what_is_no_count(self):
        for ask, table in ((covered, ["1"]), (covered, ["0"]), (covered, ["11111"] * 5), (parted, ["0"]),
                           (parted, ["1111"] * 4), (how_many_parts, ["0"]), (how_many_parts, ["111"] * 3)):
            for at, wrong in enumerate(no_counts()):
                with self.subTest(at=at, ask=ask.__name__, table=table), self.assertRaises(BadCount):
                    ask(table, wrong)

    def test_too_great(self):
        for table in small_tables(5) + [["1" * wide] * many for many in range(1, 6) for wide in range(1, 6)]:
            size = max(len(table), len(table[0]))
            for ask, most in ((fewest_parts, 4), (lambda told: parted(told, 2), 4),
                              (lambda told: how_many_parts(told, 2), 3)):
                if size > most:
                    with self.subTest(table=table), self.assertRaises(TooGreat):
                        ask(table)
                else:
                    ask(table)

    def test_too_great_goes_ahead_of_no_count(self):
        for at, wrong in enumerate(no_counts()):
            for table in (["11111"], ["1"] * 5, ["00000"] * 5):
                with self.subTest(at=at, table=table), self.assertRaises(TooGreat):
                    parted(table, wrong)
            for table in (["1111"], ["1"] * 4, ["00000"] * 5, ["0000", "1111"]):
                with self.subTest(at=at, table=table), self.assertRaises(TooGreat):
                    how_many_parts(table, wrong)

    def test_no_table_goes_ahead_of_too_great(self):
        for wrong in (["1"] * 6, ["111111"], ["11111"] * 4 + ["1111"], ["11111"] * 4 + ["11112"], ("11111",)):
            for ask in (lambda told: parted(told, 1), fewest_parts, lambda told: how_many_parts(told, 1)):
                with self.assertRaises(BadTable):
                    ask(wrong)
