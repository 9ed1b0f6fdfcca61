"""Tables, blocks and cells for the tests, and values that are none of them.

What is told of blocks here is taken from the document's words, not from the program.
"""

import itertools

HUGE = 10 ** 5000


class Hostile:
    """A value that fails at whatever is asked of it but its kind."""

    def fail(self, *rest):
        raise RuntimeError("a value of another kind was used")

    __eq__ = __ne__ = __lt__ = __gt__ = __le__ = __ge__ = fail
    __hash__ = __bool__ = __len__ = __iter__ = __getitem__ = __contains__ = fail
    __int__ = __index__ = __str__ = __repr__ = __add__ = __radd__ = fail


def endless_list():
    own = []
    own.append(own)
    return own


def deep_list():
    deep = []
    for _ in range(100000):
        deep = [deep]
    return deep


def other_kinds():
    """Values that are neither a table, a cell nor a block."""
    return [
        None, True, False, 0, 1, -1, HUGE, -HUGE, 2j, "", "0", "01", "1\n", b"", b"01", bytearray(b"01"),
        [], (), {}, set(), frozenset(), {"01": "01"}, {"01"}, {0: 0}, {(0, 0)}, frozenset({"01"}),
        range(2), iter(["01"]), (row for row in ["01"]), memoryview(b"01"), slice(0, 1), ..., NotImplemented,
        object(), Hostile(), list, str, len, lambda: ["01"], ValueError("01"), endless_list(), deep_list(),
        [None], [Hostile()], (Hostile(), Hostile()), (Hostile(),), [[]], [()], (None, None), (HUGE, HUGE),
    ]


def no_tables():
    """Values that are no table, with a fault in each of its parts."""
    wrong = other_kinds()
    wrong += [("01",), ("01", "10"), [0], [1], [True], [10, 11], [b"01"], [["0", "1"]], [("0", "1")], [{"0": "1"}]]
    wrong += [[["01"]], [["0"], ["1"]], [0, 1], [HUGE], ["0"] * 6, ["1"] * 7, ["11111"] * 6, ["0"] * 1000]
    wrong += [[""], ["", ""], ["000000"], ["111111", "111111"], ["0" * 100000], ["01", "0"], ["0", "01"]]
    wrong += [["01", ""], ["", "01"], ["11111", "1111"], ["1", "111111"]]
    for sign in ("2", "9", "a", "O", "l", " ", "-", ".", "\n", "\t", "\0", "\u0660", "\u0661", "\uff11", "\u00b9", "\ud800"):
        wrong += [[sign], ["0" + sign], [sign + "1"], ["01", "0" + sign], ["1" * 4 + sign] * 5]
    good = ["01101"] * 4
    for row in (None, True, 1, HUGE, b"01101", ["0", "1", "1", "0", "1"], ("0", "1", "1", "0", "1"), Hostile(),
                "", "0110", "011010", "01102", "0110 ", "0110\n", "x1101", "01", " 01101"):
        wrong += [good + [row], [row] + good, good[:2] + [row] + good[:2]]
    return wrong


def no_counts():
    """Values that are no number from 0 on."""
    wrong = [value for value in other_kinds() if type(value) is not int or value < 0]
    return wrong + [-2, -5, "1", "-1", b"1", [1], (1,), {1}, {1: 1}, (0, 0), [[]], "one", ["1"], range(1), -(10 ** 9)]


def no_cells(table):
    """Values that are no cell of the table."""
    many, wide = len(table), len(table[0])
    wrong = other_kinds() + [[0, 0], [(0, 0)], ((0, 0),), (0,), (0, 0, 0), ((0, 0), 0), (0, (0, 0)), ([0], [0]), "00"]
    for one in (True, False, None, "0", b"0", [0], (0,), {0: 0}, -1, -many, -HUGE, many, many + 1, HUGE, Hostile(), 2j):
        wrong.append((one, 0))
    for one in (True, False, None, "0", b"0", [0], (0,), {0: 0}, -1, -wide, -HUGE, wide, wide + 1, HUGE, Hostile(), 2j):
        wrong.append((0, one))
    return wrong


def no_lists(many):
    """Values that are no rising list of some of so many rows or columns."""
    wrong = other_kinds() + [(0,), {0}, {0: 0}, range(1), "0", b"\0", 0]
    wrong += [[many], [-1], [-many], [many + 1], [HUGE], [-HUGE], [0, many], [-1, 0], [0, HUGE], [0] * 1000]
    wrong += [[True], [False], [0, True], [False, 1], ["0"], [None], [[0]], [(0,)], [b"0"], [Hostile()], [2j]]
    wrong += [[0, 0], [many - 1, many - 1]]
    if many > 1:
        wrong += [[1, 0], [0, 1, 1], [0, 0, 1], [0, 1, 0], [1, 0, 1], [0, 1, many]]
    return wrong


def no_blocks(table):
    """Values that are no block of the table."""
    wrong = other_kinds() + [[[0], [0]], ([0],), ([0], [0], [0]), (0, 0), [([0], [0])], (([0], [0]),), {0: [0]}]
    wrong += [([], []), ([0], []), ([], [0]), ((0,), (0,)), ((0,), [0]), ([0], (0,)), ([True], [True])]
    wrong += [(rows, [0]) for rows in no_lists(len(table))]
    wrong += [([0], columns) for columns in no_lists(len(table[0]))]
    return wrong


def tables(many, wide):
    """All tables of so many rows and columns."""
    rows = ["".join(signs) for signs in itertools.product("01", repeat=wide)]
    return [list(table) for table in itertools.product(rows, repeat=many)]


def small_tables(most_cells=9):
    """All tables of at most so many cells."""
    sizes = [(many, wide) for many in range(1, 6) for wide in range(1, 6) if many * wide <= most_cells]
    return [table for many, wide in sizes for table in tables(many, wide)]


def within(most, told):
    """Those of the tables that have at most so many rows and columns."""
    return [table for table in told if len(table) <= most and len(table[0]) <= most]


def drawn_tables(many, wide, times):
    """Some tables of that size, the same ones each time."""
    drawn, seed = [], 20261 + 31 * many + wide
    for _ in range(times):
        table = []
        for _ in range(many):
            row = ""
            for _ in range(wide):
                seed = (seed * 1103515245 + 12345) % 2 ** 31
                row += "1" if (seed >> 16) % 8 < 5 else "0"
            table.append(row)
        drawn.append(table)
    return drawn


def all_cells(table):
    return [(row, column) for row in range(len(table)) for column in range(len(table[0]))]


def yes_cells(table):
    return [(row, column) for row, column in all_cells(table) if table[row][column] == "1"]


def rising_lists(many):
    return [list(chosen) for size in range(1, many + 1) for chosen in itertools.combinations(range(many), size)]


def all_blocks(table):
    return [(rows, columns) for rows in rising_lists(len(table)) for columns in rising_lists(len(table[0]))]


def cells_of(block):
    return frozenset(itertools.product(block[0], block[1]))


def full_blocks(table):
    yes = frozenset(yes_cells(table))
    return [block for block in all_blocks(table) if cells_of(block) <= yes]


def near_pairs(table):
    """All pairs of cells that one full block has."""
    return {pair for block in full_blocks(table) for pair in itertools.product(cells_of(block), repeat=2)}


def are_apart(cells, pairs):
    return all((one, other) not in pairs for one, other in itertools.combinations(cells, 2))
