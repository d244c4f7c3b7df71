"""Points of plain curves up to a size."""

from math import gcd

from pointsum.errors import BadNumber
from pointsum.sieve import MODULI, places_left, repeated, square_digits
from pointsum.whole import is_square, is_whole, root

MOST = 8192


def parts_of(point):
    """The parts (m, e) of a point other than zero: its x is m / (e e)."""
    m, square = point[0]
    return (m, root(square))


def size_of(point):
    """The greater one of the amounts of m and e e; 1 for zero."""
    if point == ():
        return 1
    return max(abs(point[0][0]), point[0][1])


def upper_square(curve, m, e):
    """What is n n for a point with the parts (m, e) and the y n / (e e e)."""
    a, b, c = curve
    ee = e * e
    return m * (m * (m + a * ee) + b * ee * ee) + c * ee * ee * ee


def rows_modulo(curve, q, B, most):
    """A list of rows: at e modulo q, e to most, that of the m from - B to B for which a square may come modulo q."""
    is_digit = square_digits(q)
    return [
        repeated([is_digit[upper_square(curve, i - B, e) % q] for i in range(q)], 2 * B + 1)
        for e in range(min(q, most + 1))
    ]


def points_with(curve, m, e):
    """The list of the points with the parts (m, e), which has some."""
    n = root(upper_square(curve, m, e))
    return [((m, e * e), (k, e * e * e)) for k in ([-n, n] if n > 0 else [0])]


def box_of(curve, B):
    """All points of size at most B: zero first, then by size, by e, by m, by y."""
    if not is_whole(B) or B < 1 or B > MOST:
        raise BadNumber(B)
    most = root(B)
    tables = [(q, rows_modulo(curve, q, B, most)) for q in MODULI]
    found = []
    for e in range(1, most + 1):
        for place in places_left(tables, e, 2 * B + 1):
            m = place - B
            if gcd(m, e) == 1 and is_square(upper_square(curve, m, e)):
                found.extend(points_with(curve, m, e))
    # Points of one size stand in the order in which they were found: by e, by m, by y.
    return ((), *sorted(found, key=size_of))
