"""A cheaper look for squares: of rows of numbers only those that are squares modulo small numbers are left.

A row is a number whose bit i stands for place i.
"""

MODULI = (16, 9, 5, 7, 11, 13, 17, 19, 23, 29)


def square_digits(q):
    """A list that tells for each digit whether it is a square modulo q."""
    told = [False] * q
    for z in range(q):
        told[z * z % q] = True
    return told


def repeated(kept, length):
    """The row of the places i below length for which kept, a list, holds at i modulo its length."""
    size = len(kept)
    row = 0
    for i in range(size):
        if kept[i]:
            row |= 1 << i
    while size < length:
        row |= row << size
        size = 2 * size
    return row & ((1 << length) - 1)


def places_left(tables, at, length):
    """The places below length that are left for a number by tables (q, rows), rows being told by it modulo q."""
    row = (1 << length) - 1
    for q, rows in tables:
        row &= rows[at % q]
    return places_of(row)


def places_of(row):
    """The list of the places of a row, ascending."""
    found = []
    while row > 0:
        lowest_bit = row & -row
        found.append(lowest_bit.bit_length() - 1)
        row ^= lowest_bit
    return found
