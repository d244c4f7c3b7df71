"""Maps of degree two: a plain curve (a, b, 0), the curve beside it, classes of points, quartics."""

from pointsum.errors import BadNumber, WrongForm
from pointsum.fractions import less, over, plus, product, root_of_fraction, times
from pointsum.points import ascending_points
from pointsum.primes import class_of, factors
from pointsum.whole import is_square, lowest, root, valuation


def letters_of(curve):
    """The pair (a, b) of a curve (a, b, 0); raises WrongForm() for another curve."""
    a, b, c = curve
    if c != 0:
        raise WrongForm()
    return (a, b)


def beside(curve):
    """The curve beside a curve."""
    a, b = letters_of(curve)
    return (-2 * a, a * a - 4 * b, 0)


def is_end(point):
    """Whether a point is () or (0, 0), which the maps lead to ()."""
    return point == () or point[0] == (0, 1)


def there(curve, point):
    """The point of the curve beside to which a point is led."""
    _, b = letters_of(curve)
    if is_end(point):
        return ()
    x, y = point
    xx = times(x, x)
    return (over(times(y, y), xx), over(times(y, less((b, 1), xx)), xx))


def back(curve, point):
    """The point of the curve to which a point of the curve beside is led."""
    a, b = letters_of(curve)
    if is_end(point):
        return ()
    x, y = point
    xx = times(x, x)
    upper = times(y, less((a * a - 4 * b, 1), xx))
    return (over(times(y, y), times((4, 1), xx)), over(upper, times((8, 1), xx)))


def class_of_point(curve, point):
    """The class of a point."""
    _, b = letters_of(curve)
    if point == ():
        return 1
    if point[0] == (0, 1):
        return class_of(b)
    # Each prime that divides the upper part of x an odd number of times divides b; the lower part is a square.
    m = point[0][0]
    result = 1 if m > 0 else -1
    for p, _ in factors(abs(b)):
        if valuation(m, p) % 2 == 1:
            result = result * p
    return result


def quartic_of(curve, d):
    """The quartic (d, a, b / d) for a class d that divides b."""
    a, b = letters_of(curve)
    if d == 0 or b % d != 0 or class_of(d) != d:
        raise BadNumber(d)
    return (d, a, b // d)


def point_of_class(curve, d, M, e, N):
    """The point with the class d that a point of its quartic tells, M and e not 0."""
    letters_of(curve)
    return (lowest(d * M * M, e * e), lowest(d * M * N, e * e * e))


def parents(curve, point):
    """All points of the curve beside that are led back to a point, ascending."""
    a, b = letters_of(curve)
    if point == ():
        return ((), ((0, 1), (0, 1)))
    x, y = point
    if x == (0, 1):
        if not is_square(b):
            return ()
        s = root(b)
        return tuple([((n, 1), (0, 1)) for n in (a - 2 * s, a + 2 * s)])
    s = root_of_fraction(x, 2)
    if s is None:
        return ()
    found = []
    for r in (s, (-s[0], s[1])):
        first = less(plus((a, 1), times((2, 1), x)), over(times((2, 1), y), r))
        found.append((first, product([(2, 1), r, first])))
    return tuple(ascending_points(found))
