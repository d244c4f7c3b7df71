"""Polynomials with whole coefficients: tuples (c0, c1, .., cn), cn not 0; () is 0."""

from pointsum.divisors import primitive, quotient, shared_part
from pointsum.fractionroots import roots_not_nought
from pointsum.fractions import common_lower
from pointsum.modpoly import all_roots
from pointsum.realroots import count_open
from pointsum.values import value_scaled, value_whole
from pointsum.whole import is_whole, lowest, power


def value_at(f, x):
    """The value of f: a whole number at a whole number, a fraction at a fraction."""
    if is_whole(x):
        return value_whole(f, x)
    n, d = x
    return lowest(value_scaled(f, n, d), power(d, max(len(f) - 1, 0)))


def times_of(f, g):
    """The product of two polynomials."""
    if f == () or g == ():
        return ()
    out = [0] * (len(f) + len(g) - 1)
    for i, c in enumerate(f):
        for j, d in enumerate(g):
            out[i + j] += c * d
    return tuple(out)


def derivative(f):
    """The derivative of f."""
    return tuple([k * c for k, c in enumerate(f) if k > 0])


def common_part(f, g):
    """The primitive polynomial, its last coefficient above 0, of greatest degree dividing both."""
    if f == () or g == ():
        return primitive(f + g)
    return shared_part(primitive(f), primitive(g))


def without_doubles(f):
    """f, not (), over its common part with its derivative, made primitive."""
    return quotient(primitive(f), common_part(f, derivative(f)))


def roots_over(f, p):
    """All roots of f, not 0 modulo the prime p, from 0 to p - 1, ascending."""
    return tuple(all_roots(f, p))


def ascending(fractions):
    """The tuple of the fractions of a list, ascending."""
    lower = common_lower(fractions)
    return tuple(sorted(fractions, key=lambda f: f[0] * (lower // f[1])))


def fraction_roots(f):
    """All fractions at which f, not (), is 0, ascending."""
    if len(f) == 1:
        return ()
    f = without_doubles(f)
    found = []
    if f[0] == 0:
        found.append((0, 1))
        f = f[1:]
    if len(f) > 1:
        found.extend(roots_not_nought(f, derivative(f)))
    return ascending(found)


def whole_roots(f):
    """All whole numbers at which f, not (), is 0, ascending."""
    return tuple([n for n, d in fraction_roots(f) if d == 1])


def count_between(f, a, b):
    """How many unlike real roots of f, not (), are above a and at most b, fractions."""
    if len(f) == 1 or a[0] * b[1] >= b[0] * a[1]:
        return 0
    f = without_doubles(f)
    at_end = 1 if value_scaled(f, b[0], b[1]) == 0 else 0
    return at_end + count_open(f, a, b)
