"""The rank of a table."""

from blockcover.checks import check_table


def rank(table):
    check_table(table)
    kept = []
    for signs in table:
        row = [int(sign) for sign in signs]
        for lead, other in kept:
            row = cleared(row, other, lead)
        # What is left of the row is 0 throughout just if it comes of the rows kept.
        if any(row):
            kept.append((first_place(row), row))
    return len(kept)


def cleared(row, other, lead):
    """The row, some times and not 0 times, less the other one so often that 0 stands at that place."""
    # Both are taken whole times, so that no fraction is needed.
    return [other[lead] * one - row[lead] * two for one, two in zip(row, other)]


def first_place(row):
    """Where the first number stands that is not 0."""
    return min([at for at, number in enumerate(row) if number != 0])
