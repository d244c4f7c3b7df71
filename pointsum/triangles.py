"""Right triangles, squares in steps, concords and sums of two cubes, each as points of a curve."""

from pointsum.fractions import is_below, is_fraction, less, over, plus, product, root_of_fraction, times
from pointsum.points import added
from pointsum.whole import is_tuple


def amount(f):
    """The amount of a fraction."""
    return (abs(f[0]), f[1])


def triangle_curve(n):
    """The curve of n."""
    return (0, -n * n, 0)


def triangle_of(n, point):
    """The amounts of the triple of a point, the lesser one of both legs first; None for points with y = 0 and zero."""
    if point == () or point[1] == (0, 1):
        return None
    x, y = point
    xx, nn = times(x, x), (n * n, 1)
    first = amount(over(less(xx, nn), y))
    second = amount(over(times((2 * n, 1), x), y))
    last = amount(over(plus(xx, nn), y))
    return (first, second, last) if is_below(first, second) else (second, first, last)


def triangle_point(n, triangle):
    """The point of a triple (a, b, c) of any signs with a a + b b = c c and a b = 2 n."""
    a, b, c = triangle
    both = plus(a, c)
    return (over(times((n, 1), both), b), over(times((2 * n * n, 1), both), times(b, b)))


def is_triangle(n, value):
    """Whether a value, any one, is a triangle of n."""
    if not is_tuple(value, 3) or not all([is_fraction(side) and side[0] > 0 for side in value]):
        return False
    a, b, c = value
    return plus(times(a, a), times(b, b)) == times(c, c) and times(a, b) == (2 * n, 1)


def squares_in_steps(n, triangle):
    """Three squares in steps of n, from a triangle of n."""
    sides = [over(side, (2, 1)) for side in triangle]
    first, second, last = less(sides[0], sides[1]), plus(sides[0], sides[1]), sides[2]
    return (times(first, first), times(last, last), times(second, second))


def concord_curve(m, n):
    """The curve of the concords of m and n."""
    return (m + n, m * n, 0)


def concord_of(m, n, point):
    """The concord (t, u, v) of a point; None if it has none."""
    if point == () or point[0] == (0, 1):
        return None
    roots = [root_of_fraction(plus(point[0], (k, 1)), 2) for k in (0, m, n)]
    return None if None in roots else tuple(roots)


def concord_point(m, n, concord):
    """The point of a concord."""
    t, u, v = concord
    return (times(t, t), product([t, u, v]))


def angled_of(concord):
    """The sides (u + v, u - v, 2 t) of a triangle, of a concord."""
    t, u, v = concord
    return (plus(u, v), less(u, v), times((2, 1), t))


def cubes_curve(n):
    """The curve of the sums of two cubes that are n."""
    return (0, 0, -432 * n * n)


def cubes_of(n, point):
    """The pair (x, y) with x ** 3 + y ** 3 = n of a point; None for zero."""
    if point == ():
        return None
    x, y = point
    lower = times((6, 1), x)
    return (over(plus((36 * n, 1), y), lower), over(less((36 * n, 1), y), lower))


def cubes_point(n, pair):
    """The point of a pair (x, y) with x ** 3 + y ** 3 = n."""
    x, y = pair
    both = plus(x, y)
    return (over((12 * n, 1), both), over(times((36 * n, 1), less(x, y)), both))


def sum_of(question, solution, other):
    """The solution of the sum of the points of two solutions, for a question of one of the three forms."""
    word, n = question[0], question[-1]
    if word == "triangle":
        curve = triangle_curve(n)
        return triangle_of(n, added(curve, triangle_point(n, solution), triangle_point(n, other)))
    if word == "concord":
        m = question[1]
        curve = concord_curve(m, n)
        return concord_of(m, n, added(curve, concord_point(m, n, solution), concord_point(m, n, other)))
    curve = cubes_curve(n)
    return cubes_of(n, added(curve, cubes_point(n, solution), cubes_point(n, other)))
