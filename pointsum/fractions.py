"""Fractions: pairs (n, d) in lowest terms, d from 1 on."""

from math import gcd, lcm

from pointsum.whole import exact_root, is_tuple, is_whole, lowest


def plus(f, g):
    """The sum of two fractions."""
    return lowest(f[0] * g[1] + g[0] * f[1], f[1] * g[1])


def less(f, g):
    """f less g."""
    return lowest(f[0] * g[1] - g[0] * f[1], f[1] * g[1])


def times(f, g):
    """The product of two fractions."""
    return lowest(f[0] * g[0], f[1] * g[1])


def over(f, g):
    """f over g, which is not 0."""
    return lowest(f[0] * g[1], f[1] * g[0])


def whole_fraction(n):
    """A whole number as a fraction."""
    return (n, 1)


def total(fractions):
    """The sum of a list of fractions."""
    result = (0, 1)
    for f in fractions:
        result = plus(result, f)
    return result


def product(fractions):
    """The product of a list of fractions."""
    result = (1, 1)
    for f in fractions:
        result = times(result, f)
    return result


def common_lower(fractions):
    """The least number that the lower parts of all fractions of a list divide."""
    lower = 1
    for _, d in fractions:
        lower = lcm(lower, d)
    return lower


def is_fraction(value):
    """Whether a value is a pair of integers without a common divisor above 1, the second from 1 on."""
    if not is_tuple(value, 2):
        return False
    n, d = value
    return is_whole(n) and is_whole(d) and d >= 1 and gcd(n, d) == 1


def is_below(f, g):
    """Whether f is below g."""
    return f[0] * g[1] < g[0] * f[1]


def height(f):
    """The greater one of the amount of n and of d."""
    return max(abs(f[0]), f[1])


def root_of_fraction(f, k):
    """The fraction whose k-th power is f, from 0 on for even k; None if there is none."""
    n, d = exact_root(f[0], k), exact_root(f[1], k)
    return None if n is None or d is None else (n, d)


def up_to_one(bound):
    """The fractions above 0 and up to 1 with lower parts up to bound, ascending (Farey's row)."""
    out = []
    n, d = 0, 1
    next_n, next_d = 1, bound
    while n < d:
        many = (bound + d) // next_d
        n, d, next_n, next_d = next_n, next_d, many * next_n - n, many * next_d - d
        out.append((n, d))
    return out


def fractions_to(bound):
    """All fractions of height at most bound, from 1 on, ascending."""
    upper = up_to_one(bound)
    beyond = [(d, n) for n, d in reversed(upper[:-1])]
    upper.extend(beyond)
    lower = [(-n, d) for n, d in reversed(upper)]
    return (*lower, (0, 1), *upper)
