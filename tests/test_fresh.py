"""Nothing handed in is changed or kept, and what is told is new, at every function."""

import copy
import unittest

from blockcover.blocks import apart, full, greatest, near
from blockcover.errors import CoverError
from blockcover.tables import changed, plain, together, turned
from samples import drawn_tables, small_tables

ASKED = {
    "turned": lambda table: turned(table),
    "plain": lambda table: plain(table),
    "together": lambda table: together(table, ["1", "1"]),
    "together behind": lambda table: together(["11"], table),
    "together twice": lambda table: together(table, table),
    "changed": lambda table: changed(table, (0, 0)),
    "full": lambda table: full(table, ([0, 1], [0, 1])),
    "greatest": lambda table: greatest(table),
    "near": lambda table: near(table, (0, 0), (1, 1)),
    "apart": lambda table: apart(table),
}


def answer(ask, table):
    """What is told, or the name of the refusal."""
    try:
        return ask(table)
    except CoverError as refusal:
        return type(refusal).__name__


def spoil(told):
    """Changes what is told, lists within it first."""
    if isinstance(told, (list, tuple)):
        for part in told:
            spoil(part)
    if isinstance(told, list):
        told.reverse()
        told.append("spoilt")


def some_tables():
    return small_tables(6) + drawn_tables(3, 3, 20) + drawn_tables(5, 5, 5) + [["11111"] * 5, ["11", "11"], ["1"]]


class FreshTest(unittest.TestCase):
    def test_what_was_handed_in_is_as_it_was(self):
        for name, ask in ASKED.items():
            for table in some_tables():
                before = list(table)
                answer(ask, table)
                self.assertEqual(table, before, name)

    def test_a_second_table_and_a_block_are_as_they_were(self):
        one, other, block = ["10", "11"], ["01"], ([0, 1], [0])
        together(one, other)
        full(one, block)
        self.assertEqual((one, other, block), (["10", "11"], ["01"], ([0, 1], [0])))

    def test_what_is_told_is_new(self):
        for name, ask in ASKED.items():
            for table in some_tables():
                before = list(table)
                told = answer(ask, table)
                expected = copy.deepcopy(told)
                spoil(told)
                self.assertEqual(table, before, name)
                self.assertEqual(answer(ask, table), expected, name)
                self.assertEqual(answer(ask, before), expected, name)

    def test_lists_within_one_answer_are_not_one(self):
        for table in some_tables():
            parts = [part for block in greatest(table) for part in block]
            self.assertEqual(len({id(part) for part in parts}), len(parts))

    def test_what_is_handed_in_may_be_changed_and_asked_again(self):
        for name, ask in ASKED.items():
            table = ["110", "011", "101"]
            for other in drawn_tables(3, 3, 20) + [["1"], ["0", "1"], ["111", "111"], ["01", "2"], ["11111"] * 5]:
                answer(ask, table)
                table[:] = other
                self.assertEqual(answer(ask, table), answer(ask, list(other)), name)

    def test_what_was_told_does_not_follow_what_was_handed_in(self):
        for name, ask in ASKED.items():
            for table in some_tables():
                handed = list(table)
                told = answer(ask, handed)
                expected = copy.deepcopy(told)
                handed[:] = ["0"]
                self.assertEqual(told, expected, name)

    def test_a_block_may_be_changed_and_asked_again(self):
        table, block = ["110", "011"], ([0], [0, 1])
        self.assertIs(full(table, block), True)
        block[1].append(2)
        self.assertIs(full(table, block), False)
        block[0][0] = 1
        del block[1][0]
        self.assertIs(full(table, block), True)
