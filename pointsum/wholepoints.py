"""Whole points of plain curves, and all points of curves of rank 0."""

from pointsum.finite import finite_part
from pointsum.lists import rank_bounds
from pointsum.sieve import MODULI, places_left, repeated, square_digits
from pointsum.values import value_over, value_whole
from pointsum.whole import is_square, root


def whole_within(curve, B):
    """All whole points (x, y) with x of an amount at most B, ascending."""
    a, b, c = curve
    return square_places((c, b, a, 1), B)


def points_at_whole(f, x):
    """The list of all (x, y) with a whole y and y y the value of f at a whole x, ascending."""
    value = value_whole(f, x)
    if not is_square(value):
        return []
    y = root(value)
    return [(x, -y), (x, y)] if y > 0 else [(x, 0)]


def square_places(f, B):
    """All pairs of whole numbers (x, y), x of an amount at most B, with y y the value of f at x, ascending."""
    length = 2 * B + 1
    tables = []
    for q in MODULI:
        is_digit = square_digits(q)
        tables.append((q, [repeated([is_digit[value_over(f, at - B, q)] for at in range(q)], length)]))
    found = []
    for at in places_left(tables, 0, length):
        found.extend(points_at_whole(f, at - B))
    return tuple(found)


def all_points(curve):
    """All points over the fractions, ascending, if the upper one of the two numbers is 0; otherwise None."""
    return finite_part(curve) if rank_bounds(curve, 0)[1] == 0 else None


def all_whole(curve):
    """The whole points (x, y) among all points, ascending, if the upper number is 0; otherwise None."""
    points = all_points(curve)
    if points is None:
        return None
    # The letters of points of finite order are whole.
    return tuple([(point[0][0], point[1][0]) for point in points if point != ()])
