"""Division of points by primes, and groups of points that are saturated."""

from pointsum.errors import TooGreat
from pointsum.fields import curve_modulo, multiple_over
from pointsum.fractions import plus, times
from pointsum.heights import constants, height_bounds
from pointsum.independence import basis_modulo
from pointsum.modular import inverse_mod
from pointsum.points import ascending_points, halves, point_modulo, thirds
from pointsum.rows import MOST, leading_rows, rows_left
from pointsum.search import box_of, size_of
from pointsum.sums import great_prime, many_times, sum_of_multiples

# 2 ** MOST_DIGITS is the greatest box.
MOST_DIGITS = 13
DOUBLINGS = 4


def digits_of_parts(curve, bound, l):
    """What bounds the logarithm of the size of each Q with l Q = P, bound being one of the height of P."""
    return plus(times(bound, (1, l * l)), (constants(curve)[0].bit_length(), 3))


def part_digits(curve, point, l):
    """The least integer not below this, by the HIGH of [67]; raises TooGreat("box") if it is above MOST_DIGITS."""
    # The LOW of fewer doublings is below that HIGH, and soon told for a great point.
    for bound, doublings in ((0, 0), (1, DOUBLINGS)):
        n, d = digits_of_parts(curve, height_bounds(curve, point, doublings)[bound], l)
        if n > MOST_DIGITS * d:
            raise TooGreat("box")
    return -(-n // d)


def parts_in_box(curve, point, l):
    """The list of all Q with l Q = point, for a point that is not of finite order."""
    digits = part_digits(curve, point, l)
    if rows_left(curve, (point,), l, [(1,)], MOST) == []:
        return []
    p = great_prime(curve)
    over_p = curve_modulo(curve, p)
    place = point_modulo(curve, point, p)
    found = []
    for part in box_of(curve, 1 << digits):
        if multiple_over(p, over_p, l, point_modulo(curve, part, p)) == place:
            found.append(part)
    return [part for part in found if many_times(curve, l, part) == point]


def divided(curve, point, l):
    """All points whose l-fold is a point that is not of finite order, ascending."""
    if l == 2:
        return halves(curve, point)
    if l == 3:
        return thirds(curve, point)
    return tuple(ascending_points(parts_in_box(curve, point, l)))


def centred(n, l):
    """The number of the least amount that is n modulo l."""
    n = n % l
    return n - l if 2 * n > l else n


def lowest_sum(curve, points, many, row, l):
    """(at, P): the lowest sum of points by a multiple of a row that has 1 at one of the first many places, at."""
    sums = []
    for at in range(many):
        if row[at] != 0:
            turn = inverse_mod(row[at], l)
            numbers = [centred(turn * n, l) for n in row]
            sums.append((at, sum_of_multiples(curve, numbers, points)))
    return min(sums, key=lambda pair: size_of(pair[1]))


def better_point(curve, points, l):
    """(at, Q): Q, l Q being a sum with the point at `at` once, may stand in its place; None if there is none.

    Raises TooGreat("box") if this stays open.
    """
    basis = basis_modulo(curve, l)
    whole = (*points, *basis)
    rows = leading_rows(len(points), len(basis), l)
    is_open = False
    for row in rows_left(curve, whole, l, rows, MOST):
        at, place = lowest_sum(curve, whole, len(points), row, l)
        try:
            parts = divided(curve, place, l)
        except TooGreat:
            is_open = True
            parts = ()
        if parts != ():
            return (at, min(parts, key=size_of))
    if is_open:
        raise TooGreat("box")
    return None


def is_saturated(curve, points, l):
    """Whether the group of the sums of independent points and of finite order is saturated at a prime l."""
    return better_point(curve, points, l) is None


def saturated(curve, points, l):
    """As many independent points, whose group has that of the points in it and is saturated at a prime l."""
    points = tuple(points)
    told = better_point(curve, points, l)
    while told is not None:
        at, part = told
        points = (*points[:at], part, *points[at + 1:])
        told = better_point(curve, points, l)
    return points
