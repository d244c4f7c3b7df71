"""Curves (a1, a2, a3, a4, a6), plain curves (a, b, c), their numbers and forms."""

from pointsum.shortening import without_powers
from pointsum.whole import is_tuple, is_whole, lowest

PLAIN_LIMIT = 10000


def five(curve):
    """The five integers of a curve, also of a plain one."""
    if len(curve) == 3:
        a, b, c = curve
        return (0, a, 0, b, c)
    return curve


def are_whole(value, many):
    """Whether a value is a tuple of so many integers."""
    return is_tuple(value, many) and all([is_whole(n) for n in value])


def is_curve(value):
    """Whether a value is a tuple of five integers with a discriminant other than 0."""
    return are_whole(value, 5) and numbers_of(value)[6] != 0


def is_plain(value):
    """Whether a value is a plain curve of three integers of amounts up to 10,000."""
    if not are_whole(value, 3) or max([abs(n) for n in value]) > PLAIN_LIMIT:
        return False
    return numbers_of(value)[6] != 0


def numbers_of(curve):
    """(b2, b4, b6, b8, c4, c6, D) of a curve."""
    a1, a2, a3, a4, a6 = five(curve)
    b2 = a1 * a1 + 4 * a2
    b4 = 2 * a4 + a1 * a3
    b6 = a3 * a3 + 4 * a6
    b8 = a1 * a1 * a6 + 4 * a2 * a6 - a1 * a3 * a4 + a2 * a3 * a3 - a4 * a4
    c4 = b2 * b2 - 24 * b4
    c6 = 36 * b2 * b4 - b2 * b2 * b2 - 216 * b6
    d = 9 * b2 * b4 * b6 - b2 * b2 * b8 - 8 * b4 * b4 * b4 - 27 * b6 * b6
    return (b2, b4, b6, b8, c4, c6, d)


def j_of(curve):
    """The fraction j of a curve."""
    _, _, _, _, c4, _, d = numbers_of(curve)
    return lowest(c4 * c4 * c4, d)


def short_form(curve):
    """The pair (A, B) of the short form of a curve."""
    _, _, _, _, c4, c6, _ = numbers_of(curve)
    return without_powers(-27 * c4, -54 * c6)


def plain_form(curve):
    """The plain form of a curve, and the change that leads to it."""
    a1, a2, a3, a4, a6 = five(curve)
    if a1 % 2 == 0 and a3 % 2 == 0:
        s, t = a1 // 2, a3 // 2
        plain = (a2 + s * s, a4 + s * a3, a6 + t * t)
        u = (1, 1)
    else:
        b2, b4, b6, _, _, _, _ = numbers_of(curve)
        plain = (b2, 8 * b4, 16 * b6)
        u = (1, 2)
    return (plain, (u, (0, 1), lowest(-a1, 2), lowest(-a3, 2)))
