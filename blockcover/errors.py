"""The refusals of the program."""


class CoverError(ValueError):
    """What was handed in is refused."""


class BadTable(CoverError):
    """It is no table."""


class BadCell(CoverError):
    """It is no cell of the table, or no yes cell where one is asked for."""


class BadBlock(CoverError):
    """It is no block of the table."""


class BadCount(CoverError):
    """It is no number from 0 on."""


class TooGreat(CoverError):
    """The table has, or would have, too many rows or columns."""
