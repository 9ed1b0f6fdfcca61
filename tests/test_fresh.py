"""Nothing handed in is changed or kept, and what is told is new, at every function."""

import copy
import unittest

from blockcover.answers import Barred, Covered, Parted, Split
from blockcover.blocks import apart, full, greatest, near
from blockcover.covers import covered, fewest, fewest_parts, how_many_parts, parted
from blockcover.errors import CoverError
from blockcover.rank import rank
from blockcover.tables import changed, plain, together, turned
from samples import drawn_tables, small_tables

ASKED = {
    "turned": lambda table: turned(table),
    "plain": lambda table: plain(table),
    "together": lambda table: together(table, ["1", "1"]),
    "together behind": lambda table: together(["11"], table),
    "together twice": lambda table: together(table, table),
    "changed": lambda table: changed(table, (0, 0)),
    "full": lambda table: full(table, ([0, 1], [0, 1])),
    "greatest": lambda table: greatest(table),
    "near": lambda table: near(table, (0, 0), (1, 1)),
    "apart": lambda table: apart(table),
    "covered by none": lambda table: field_of(covered(table, 0)),
    "covered by 1": lambda table: field_of(covered(table, 1)),
    "covered by 3": lambda table: field_of(covered(table, 3)),
    "covered by 5": lambda table: field_of(covered(table, 5)),
    "fewest": lambda table: fewest(table),
    "parted into none": lambda table: field_of(parted(table, 0)),
    "parted into 2": lambda table: field_of(parted(table, 2)),
    "parted into 4": lambda table: field_of(parted(table, 4)),
    "fewest parts": lambda table: fewest_parts(table),
    "how many parts": lambda table: how_many_parts(table, 2),
    "rank": lambda table: rank(table),
    "covered shows": lambda table: Covered([([0], [0]), ([0, 1], [0, 1])]).shows(table, 2),
    "barred shows": lambda table: Barred(("cell", (0, 0), [("apart", [(1, 1)])])).shows(table, 1),
    "parted shows": lambda table: Parted([([0], [0]), ([1], [0, 1])]).shows(table, 2),
    "split shows": lambda table: Split(("cell", (0, 0), [("rank",)])).shows(table, 1),
}


def field_of(told):
    return told.blocks if isinstance(told, (Covered, Parted)) else told.tree


def answer(ask, table):
    """What is told, or the name of the refusal."""
    try:
        return ask(table)
    except CoverError as refusal:
        return type(refusal).__name__


def spoil(told):
    """Changes what is told, lists within it first."""
    if isinstance(told, (list, tuple)):
        for part in told:
            spoil(part)
    if isinstance(told, list):
        told.reverse()
        told.append("spoilt")


def lists_in(told):
    """All lists within, one that stands in several places so often."""
    within = [one for part in told for one in lists_in(part)] if isinstance(told, (list, tuple)) else []
    return within + [told] if isinstance(told, list) else within


def some_tables():
    needing_cases = [["0111", "1011", "1101", "1110"], ["01111", "10111", "11011", "11101", "11110"]]
    greater = drawn_tables(3, 3, 20) + drawn_tables(5, 5, 5) + needing_cases
    return small_tables(6) + greater + [["11111"] * 5, ["11", "11"], ["1"]]


class FreshTest(unittest.TestCase):
    def test_what_was_handed_in_is_as_it_was(self):
        for name, ask in ASKED.items():
            for table in some_tables():
                before = list(table)
                answer(ask, table)
                self.assertEqual(table, before, name)

    def test_a_second_table_and_a_block_are_as_they_were(self):
        one, other, block = ["10", "11"], ["01"], ([0, 1], [0])
        together(one, other)
        full(one, block)
        self.assertEqual((one, other, block), (["10", "11"], ["01"], ([0, 1], [0])))

    def test_what_is_told_is_new(self):
        for name, ask in ASKED.items():
            for table in some_tables():
                before = list(table)
                told = answer(ask, table)
                expected = copy.deepcopy(told)
                spoil(told)
                self.assertEqual(table, before, name)
                self.assertEqual(answer(ask, table), expected, name)
                self.assertEqual(answer(ask, before), expected, name)

    def test_lists_within_one_answer_are_not_one(self):
        for table in some_tables():
            parts = [part for block in greatest(table) for part in block]
            self.assertEqual(len({id(part) for part in parts}), len(parts))
            for most in range(5):
                parts = lists_in(field_of(covered(table, most)))
                self.assertEqual(len({id(part) for part in parts}), len(parts))

    def test_an_answer_shows_the_same_when_another_one_was_spoilt(self):
        for table in some_tables():
            for most in range(5):
                one, other = covered(table, most), covered(table, most)
                spoil(field_of(one))
                self.assertIs(other.shows(table, most), True)
                if max(len(table), len(table[0])) <= 4:
                    one, other = parted(table, most), parted(table, most)
                    spoil(field_of(one))
                    self.assertIs(other.shows(table, most), True)

    def test_what_is_handed_in_may_be_changed_and_asked_again(self):
        for name, ask in ASKED.items():
            table = ["110", "011", "101"]
            for other in drawn_tables(3, 3, 20) + [["1"], ["0", "1"], ["111", "111"], ["01", "2"], ["11111"] * 5]:
                answer(ask, table)
                table[:] = other
                self.assertEqual(answer(ask, table), answer(ask, list(other)), name)

    def test_what_was_told_does_not_follow_what_was_handed_in(self):
        for name, ask in ASKED.items():
            for table in some_tables():
                handed = list(table)
                told = answer(ask, handed)
                expected = copy.deepcopy(told)
                handed[:] = ["0"]
                self.assertEqual(told, expected, name)

    def test_a_block_may_be_changed_and_asked_again(self):
        table, block = ["110", "011"], ([0], [0, 1])
        self.assertIs(full(table, block), True)
        block[1].append(2)
        self.assertIs(full(table, block), False)
        block[0][0] = 1
        del block[1][0]
        self.assertIs(full(table, block), True)
