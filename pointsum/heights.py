"""Heights of points of plain curves, between exact fractions."""

from math import gcd

from pointsum.doubling import constants_of, forms_of
from pointsum.finite import order_of
from pointsum.fractions import is_below
from pointsum.intervals import halved, interval_less, interval_plus, interval_times
from pointsum.points import added
from pointsum.search import box_of
from pointsum.values import value_scaled
from pointsum.whole import lowest


def doubling_forms(curve):
    """(F, G): the coefficients of m ** 4, m ** 3 N, .., N ** 4 of both."""
    return forms_of(curve)


def constants(curve):
    """The constants (K, K') of a curve."""
    low, high, _ = constants_of(curve)
    return (low, high)


def doubled_parts(curve, m, N, shared, times_doubled):
    """The x of a point, m over N, 1 over 0 for zero, doubled so many times.

    What divides both forms divides shared, the third number of constants_of; so their common divisor
    is found without dividing great numbers by each other again and again.
    """
    f, g = [form[::-1] for form in forms_of(curve)]
    for _ in range(times_doubled):
        upper, lower = value_scaled(f, m, N), value_scaled(g, m, N)
        both = gcd(gcd(shared, upper), lower)
        m, N = upper // both, lower // both
    return (m, N)


def bounds_of_x(curve, told, x, n):
    """(LOW, HIGH) for a point with this x, None for zero, told being constants_of the curve."""
    low, high, shared = told
    m, N = (1, 0) if x is None else x
    m, N = doubled_parts(curve, m, N, shared, n)
    length = max(abs(m), N).bit_length()
    scale = 3 * (1 << (2 * n))
    least = 3 * (length - 1) - low.bit_length()
    return (lowest(max(least, 0), scale), lowest(3 * length + high.bit_length(), scale))


def height_bounds(curve, point, n):
    """(LOW, HIGH), between which the height of a point is, by 2 ** n times the point."""
    return bounds_of_x(curve, constants_of(curve), None if point == () else point[0], n)


def pairing_bounds(curve, point, other, n):
    """The interval of <P, Q>."""
    both = height_bounds(curve, added(curve, point, other), n)
    rest = interval_less(both, height_bounds(curve, point, n))
    return halved(interval_less(rest, height_bounds(curve, other, n)))


def two_by_two(a, b, c, d):
    """The interval a b less c d of four intervals."""
    return interval_less(interval_times(a, b), interval_times(c, d))


def determinant_bounds(curve, points, n):
    """The determinant interval of one to three points."""
    own = [height_bounds(curve, point, n) for point in points]
    if len(points) == 1:
        return own[0]
    d12 = pairing_bounds(curve, points[0], points[1], n)
    if len(points) == 2:
        return two_by_two(own[0], own[1], d12, d12)
    d13 = pairing_bounds(curve, points[0], points[2], n)
    d23 = pairing_bounds(curve, points[1], points[2], n)
    d11, d22, d33 = own
    first = interval_times(d11, two_by_two(d22, d33, d23, d23))
    second = interval_times(d12, two_by_two(d12, d33, d23, d13))
    third = interval_times(d13, two_by_two(d12, d23, d22, d13))
    return interval_plus(interval_less(first, second), third)


def least_height(curve, B, n):
    """The least height mu(B, n), which no point that is not of finite order stays below if it is above 0."""
    return least_in(curve, endless_points(curve, box_of(curve, B)), B, n)


def endless_points(curve, box):
    """The list of the points of a box that are not of finite order, one of each with its opposite."""
    found = []
    # A point and its opposite stand side by side.
    ahead = None
    for point in box[1:]:
        if point[0] != ahead and order_of(curve, point) is None:
            found.append(point)
        ahead = point[0]
    return found


def least_in(curve, points, B, n):
    """mu(B, n) by the endless_points of the box of B."""
    told = constants_of(curve)
    least = lowest(3 * (B.bit_length() - 1) - told[0].bit_length(), 3)
    for point in points:
        low = bounds_of_x(curve, told, point[0], n)[0]
        least = low if is_below(low, least) else least
    return least
