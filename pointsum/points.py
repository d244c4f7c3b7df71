"""Points of curves: () for zero, or pairs (x, y) of fractions; lines, sums, multiples and parts."""

from pointsum.curves import five
from pointsum.divisionpolys import double_lower, halves_form, thirds_form, threefold_form
from pointsum.doubling import constants_of
from pointsum.errors import TooGreat
from pointsum.fractions import common_lower, height, is_fraction, less, over, plus, product, root_of_fraction
from pointsum.fractions import times, total, whole_fraction
from pointsum.modular import inverse_mod
from pointsum.polynomials import derivative, fraction_roots, value_at
from pointsum.whole import is_tuple, power

MOST_FIGURES = 4000


def is_point(curve, value):
    """Whether a value, any one, is a point of a curve."""
    if value == ():
        return True
    if not is_tuple(value, 2):
        return False
    x, y = value
    return is_fraction(x) and is_fraction(y) and satisfies(curve, x, y)


def satisfies(curve, x, y):
    """Whether two fractions satisfy the equation of a curve."""
    a1, a2, a3, a4, a6 = five(curve)
    d = common_lower([x, y])
    m, n = x[0] * (d // x[1]), y[0] * (d // y[1])
    left = n * (n + a1 * m + a3 * d) * d
    return left == m * m * m + d * (a2 * m * m + d * (a4 * m + d * a6))


def opposite(curve, point):
    """The point that makes zero with a point."""
    if point == ():
        return ()
    a1, _, a3, _, _ = five(curve)
    x, y = point
    return (x, total([times((-1, 1), y), times((-a1, 1), x), (-a3, 1)]))


def tangent_slope(curve, point):
    """The slope of the line that meets a curve twice in a point other than its opposite."""
    a1, a2, a3, a4, _ = five(curve)
    x, y = point
    upper = total([product([(3, 1), x, x]), times((2 * a2, 1), x), (a4, 1), times((-a1, 1), y)])
    return over(upper, total([times((2, 1), y), times((a1, 1), x), (a3, 1)]))


def line_of(curve, point, other):
    """The line of two points; None if one of them is zero."""
    if point == () or other == ():
        return None
    x, y = point
    if other == opposite(curve, point):
        return ("up", x)
    if other == point:
        k = tangent_slope(curve, point)
    else:
        k = over(less(other[1], y), less(other[0], x))
    return ("line", k, less(y, times(k, x)))


def added(curve, point, other):
    """The sum of two points."""
    if point == ():
        return other
    if other == ():
        return point
    line = line_of(curve, point, other)
    if line[0] == "up":
        return ()
    a1, a2, _, _, _ = five(curve)
    _, k, h = line
    x = total([times(k, plus(k, (a1, 1))), (-a2, 1), times((-1, 1), point[0]), times((-1, 1), other[0])])
    return opposite(curve, (x, plus(times(k, x), h)))


def multiple(curve, n, point):
    """n times a point; raises TooGreat("figures") if a number of it is above 10 ** MOST_FIGURES."""
    if n == 0 or point == ():
        return ()
    start = point if n > 0 else opposite(curve, point)
    most = power(10, MOST_FIGURES)
    many = abs(n)
    place, done = start, 1
    for at in range(many.bit_length() - 2, -1, -1):
        if outgrows(curve, place, done, many, most):
            raise TooGreat("figures")
        place, done = added(curve, place, place), 2 * done
        if (many >> at) & 1:
            place, done = added(curve, place, start), done + 1
        if place == ():
            return multiple(curve, many % done, start)
    if max(height(place[0]), height(place[1])) > most:
        raise TooGreat("figures")
    return place


def outgrows(curve, place, done, many, most):
    """Whether the height of place, done P, shows that many P has an x beyond most; False if it is left open.

    With k, k' the logarithms of the constants to the base 2, h that of the greater number of the x,
    hh(done P) is at least h - k / 3, hh(many P) is (many / done) ** 2 times that, and h(many P) is at
    least hh(many P) - k' / 3.
    """
    size, limit = height(place[0]).bit_length(), most.bit_length()
    # The constants are worth their cost only where many P is likely to be too great.
    if many * many * size <= done * done * limit:
        return False
    low, high, _ = constants_of(curve)
    least = 3 * (size - 1) - low.bit_length()
    return many * many * least > done * done * (3 * limit + high.bit_length())


def points_at(curve, x):
    """The list of the points with this x, ascending."""
    r = root_of_fraction(value_at(double_lower(curve), x), 2)
    if r is None:
        return []
    a1, _, a3, _, _ = five(curve)
    middle = plus(times((-a1, 1), x), (-a3, 1))
    ends = [less(middle, r)] if r == (0, 1) else [less(middle, r), plus(middle, r)]
    return [(x, over(end, (2, 1))) for end in ends]


def points_over_roots(curve, f):
    """The list of the points whose x is a root of f, not (), ascending."""
    return [point for x in fraction_roots(f) for point in points_at(curve, x)]


def meets(curve, line):
    """The points other than zero in which a line meets a curve, ascending, each as often as it is met."""
    if line[0] == "up":
        found = points_at(curve, line[1])
        return tuple(found + found) if len(found) == 1 else tuple(found)
    _, k, h = line
    f = cut_by(curve, k, h)
    found = []
    for x in fraction_roots(f):
        point = (x, plus(times(k, x), h))
        slope = f
        while value_at(slope, x) == (0, 1):
            found.append(point)
            slope = derivative(slope)
    return tuple(found)


def cut_by(curve, k, h):
    """The polynomial whose roots are the x in which the line y = k x + h meets a curve."""
    a1, a2, a3, a4, a6 = five(curve)
    minus = (-1, 1)
    second = plus((a2, 1), product([minus, k, plus(k, (a1, 1))]))
    first = total([(a4, 1), product([minus, h, plus(times((2, 1), k), (a1, 1))]), times((-a3, 1), k)])
    last = plus((a6, 1), product([minus, h, plus(h, (a3, 1))]))
    row = [last, first, second, whole_fraction(1)]
    lower = common_lower(row)
    return tuple([n * (lower // d) for n, d in row])


def halves(curve, point):
    """All points whose double is a point, ascending."""
    if point == ():
        return ((), *points_over_roots(curve, double_lower(curve)))
    found = points_over_roots(curve, halves_form(curve, point[0]))
    return tuple([half for half in found if added(curve, half, half) == point])


def thirds(curve, point):
    """All points whose threefold is a point, ascending."""
    if point == ():
        return ((), *points_over_roots(curve, threefold_form(curve)))
    found = points_over_roots(curve, thirds_form(curve, point[0]))
    return tuple([third for third in found if added(curve, third, added(curve, third, third)) == point])


def point_modulo(curve, point, p):
    """A point modulo a prime p that does not divide the discriminant: () or a pair of digits."""
    if point == () or point[0][1] % p == 0:
        return ()
    return tuple([n * inverse_mod(d, p) % p for n, d in point])


def ascending_points(points):
    """A list of points other than zero, ascending by x, then by y."""
    lower = common_lower([f for point in points for f in point])
    return sorted(points, key=lambda point: (scaled_to(lower, point[0]), scaled_to(lower, point[1])))


def scaled_to(lower, f):
    """lower times a fraction whose lower part divides it."""
    return f[0] * (lower // f[1])
