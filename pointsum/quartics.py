"""Quartics (d1, a, d2): their values, points, and whether they are at the reals."""

from math import gcd

from pointsum.curves import are_whole
from pointsum.sieve import MODULI, places_left, repeated, square_digits
from pointsum.whole import is_square, root


def is_quartic(value):
    """Whether a value, any one, is a quartic."""
    if not are_whole(value, 3):
        return False
    d1, a, d2 = value
    return d1 != 0 and d2 != 0 and a * a != 4 * d1 * d2


def at_reals(quartic):
    """Whether some real numbers, not both 0, have a value from 0 on."""
    d1, a, d2 = quartic
    return d1 > 0 or d2 > 0 or (a > 0 and a * a > 4 * d1 * d2)


def value_of(quartic, x, y):
    """The value of a quartic at (x, y)."""
    d1, a, d2 = quartic
    xx, yy = x * x, y * y
    return xx * (d1 * xx + a * yy) + d2 * yy * yy


def rows_modulo(quartic, q, length):
    """A list of rows: at x modulo q that of the y below length for which the value is a square modulo q."""
    is_digit = square_digits(q)
    return [
        repeated([is_digit[value_of(quartic, x, y) % q] for y in range(q)], length)
        for x in range(min(q, length))
    ]


def points_in(quartic, B):
    """All points (x, y, z) with x and y from 0 to B and z from 0 on, ascending."""
    length = B + 1
    tables = [(q, rows_modulo(quartic, q, length)) for q in MODULI]
    found = []
    for x in range(length):
        for y in places_left(tables, x, length):
            value = value_of(quartic, x, y)
            if gcd(x, y) == 1 and is_square(value):
                found.append((x, y, root(value)))
    return tuple(found)
