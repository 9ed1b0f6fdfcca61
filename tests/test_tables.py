import unittest

from blockcover.errors import BadCell, BadTable, TooGreat
from blockcover.tables import changed, plain, together, turned
from samples import all_cells, drawn_tables, no_cells, no_tables, small_tables

FIVE = ["10110", "01001", "11111", "00000", "00101"]
SIZES = [(many, wide) for many in range(1, 6) for wide in range(1, 6)]


def some_tables():
    return small_tables(8) + [table for many, wide in SIZES for table in drawn_tables(many, wide, 4)]


class TurnedTest(unittest.TestCase):
    def test_examples(self):
        self.assertEqual(turned(["0"]), ["0"])
        self.assertEqual(turned(["1"]), ["1"])
        self.assertEqual(turned(["10110"]), ["1", "0", "1", "1", "0"])
        self.assertEqual(turned(["1", "0", "0", "1", "1"]), ["10011"])
        self.assertEqual(turned(["110", "001"]), ["10", "10", "01"])
        self.assertEqual(turned(FIVE), ["10100", "01100", "10101", "10100", "01101"])

    def test_sign_by_sign(self):
        for table in some_tables():
            told = turned(table)
            self.assertEqual((len(told), {len(row) for row in told}), (len(table[0]), {len(table)}))
            for row, column in all_cells(table):
                self.assertEqual(told[column][row], table[row][column], table)

    def test_turned_twice_it_is_the_table_again(self):
        for table in some_tables():
            self.assertEqual(turned(turned(table)), table)


class PlainTest(unittest.TestCase):
    def test_rows_and_columns_without_a_yes_cell(self):
        self.assertEqual(plain(["000", "010", "000"]), ["1"])
        self.assertEqual(plain(["0000", "0100", "0000", "0001"]), ["10", "01"])
        self.assertEqual(plain(["00000", "01010", "00000", "00010"]), ["11", "01"])

    def test_alike_ones_stand_once(self):
        self.assertEqual(plain(["11", "11"]), ["1"])
        self.assertEqual(plain(["10", "01", "10"]), ["10", "01"])
        self.assertEqual(plain(["101", "010"]), ["10", "01"])
        self.assertEqual(plain(["11111"] * 5), ["1"])

    def test_they_stand_as_they_stand_first(self):
        self.assertEqual(plain(["01", "10", "01", "11"]), ["01", "10", "11"])
        self.assertEqual(plain(["0011", "1010", "0011"]), ["011", "110"])
        self.assertEqual(plain(["01101", "10010", "01101"]), ["01", "10"])
        self.assertEqual(plain(["011", "110", "000", "011", "111"]), ["011", "110", "111"])

    def test_a_plain_one_stays(self):
        for table in (["1"], ["10", "01"], ["01", "10"], ["110", "011", "101"]):
            self.assertEqual(plain(table), table)

    def test_no_yes_cell(self):
        for many, wide in SIZES:
            self.assertEqual(plain(["0" * wide] * many), ["0"])

    def test_against_the_document(self):
        for table in some_tables():
            self.assertEqual(plain(table), plain_by_places(table), table)

    def test_plain_of_plain_is_the_same(self):
        for table in some_tables():
            self.assertEqual(plain(plain(table)), plain(table), table)


def plain_by_places(table):
    rows = [k for k in range(len(table)) if "1" in table[k] and table.index(table[k]) == k]
    columns = [[table[row][column] for row in rows] for column in range(len(table[0]))]
    places = [k for k in range(len(columns)) if "1" in columns[k] and columns.index(columns[k]) == k]
    return ["".join(table[row][column] for column in places) for row in rows] or ["0"]


class TogetherTest(unittest.TestCase):
    def test_examples(self):
        self.assertEqual(together(["1"], ["1"]), ["10", "01"])
        self.assertEqual(together(["0"], ["1"]), ["00", "01"])
        self.assertEqual(together(["11"], ["1", "1"]), ["110", "001", "001"])
        self.assertEqual(together(["11", "10"], ["101", "111", "011"]), ["11000", "10000", "00101", "00111", "00011"])
        self.assertEqual(together(["1111"] * 4, ["1"]), ["11110"] * 4 + ["00001"])
        self.assertEqual(together(["1"], ["1111"] * 4), ["10000"] + ["01111"] * 4)

    def test_sign_by_sign(self):
        for many, wide in SIZES:
            for more, wider in SIZES:
                if many + more <= 5 and wide + wider <= 5:
                    one = drawn_tables(many, wide, 3)[-1]
                    self.check(one, drawn_tables(more, wider, 2)[-1])
                    self.check(["1" * wide] * many, ["1" * wider] * more)
        for one in small_tables(4):
            for other in (["1"], ["0"]):
                if len(one) < 5 and len(one[0]) < 5:
                    self.check(one, other)
                    self.check(other, one)

    def check(self, one, other):
        told = together(one, other)
        many, wide = len(one), len(one[0])
        self.assertEqual(len(told), many + len(other))
        self.assertEqual({len(row) for row in told}, {wide + len(other[0])})
        for row, column in all_cells(told):
            if row < many and column < wide:
                sign = one[row][column]
            elif row >= many and column >= wide:
                sign = other[row - many][column - wide]
            else:
                sign = "0"
            self.assertEqual(told[row][column], sign, (one, other))

    def test_too_great(self):
        for many, wide in SIZES:
            for more, wider in SIZES:
                one, other = ["0" * wide] * many, ["1" * wider] * more
                if many + more > 5 or wide + wider > 5:
                    with self.assertRaises(TooGreat):
                        together(one, other)

    def test_what_is_no_table(self):
        for good in (["1"], ["01", "10"], ["11111"] * 5):
            for at, wrong in enumerate(no_tables()):
                with self.subTest(good=good, at=at, place="first"), self.assertRaises(BadTable):
                    together(wrong, good)
                with self.subTest(good=good, at=at, place="second"), self.assertRaises(BadTable):
                    together(good, wrong)

    def test_no_table_goes_ahead_of_too_great(self):
        five = ["11111"] * 5
        for wrong in (["1"] * 6, ["111111"], ["11111"] * 4 + ["1111"], ["11111"] * 4 + ["11112"]):
            for one, other in ((wrong, five), (five, wrong), (wrong, wrong)):
                with self.assertRaises(BadTable):
                    together(one, other)


class ChangedTest(unittest.TestCase):
    def test_examples(self):
        self.assertEqual(changed(["0"], (0, 0)), ["1"])
        self.assertEqual(changed(["1"], (0, 0)), ["0"])
        self.assertEqual(changed(["010", "111"], (1, 2)), ["010", "110"])
        self.assertEqual(changed(["010", "111"], (0, 0)), ["110", "111"])
        self.assertEqual(changed(["00000"] * 5, (4, 4)), ["00000"] * 4 + ["00001"])
        self.assertEqual(changed(["11", "11"], (0, 1)), ["10", "11"])

    def test_at_each_cell(self):
        for table in some_tables():
            for cell in all_cells(table):
                told = changed(table, cell)
                self.assertEqual((len(told), {len(row) for row in told}), (len(table), {len(table[0])}))
                unlike = [at for at in all_cells(table) if told[at[0]][at[1]] != table[at[0]][at[1]]]
                self.assertEqual(unlike, [cell], table)
                self.assertIn(told[cell[0]][cell[1]], ("0", "1"))

    def test_changed_twice_it_is_the_table_again(self):
        for table in some_tables():
            for cell in all_cells(table):
                self.assertEqual(changed(changed(table, cell), cell), table)

    def test_what_is_no_cell(self):
        for table in (["1"], ["0"], ["01", "10", "11"], ["1111"], ["1"] * 4, FIVE):
            for at, wrong in enumerate(no_cells(table)):
                with self.subTest(table=table, at=at), self.assertRaises(BadCell):
                    changed(table, wrong)

    def test_no_table_goes_ahead_of_no_cell(self):
        for at, wrong in enumerate(no_tables()):
            for cell in ((0, 0), (9, 9), None, [0, 0], (True, 0)):
                with self.subTest(at=at, cell=cell), self.assertRaises(BadTable):
                    changed(wrong, cell)


class NoTableTest(unittest.TestCase):
    def test_what_is_no_table(self):
        for ask in (turned, plain):
            for at, wrong in enumerate(no_tables()):
                with self.subTest(ask=ask.__name__, at=at), self.assertRaises(BadTable):
                    ask(wrong)
