"""Roots in fractions: the roots modulo a prime, lifted to its powers, and led back to fractions."""

from math import isqrt

from pointsum.divisors import quotient
from pointsum.modpoly import all_roots, common_over, trimmed
from pointsum.modular import inverse_mod
from pointsum.splitting import has_no_parts
from pointsum.values import value_over, value_scaled

FIRST = 101


def good_prime(f, slope):
    """The least prime from FIRST on modulo which f has its degree and no root in common with slope."""
    p = FIRST
    while True:
        if has_no_parts(p) and f[-1] % p != 0:
            if len(common_over(trimmed(f, p), trimmed(slope, p), p)) == 1:
                return p
        p += 2


def lifted_place(f, slope, place, m):
    """A root of f and the inverse of slope there, modulo a square m, from both modulo its root."""
    x, turn = place
    x = (x - value_over(f, x, m) * turn) % m
    turn = turn * (2 - value_over(slope, x, m) * turn) % m
    return (x, turn)


def near_fraction(x, m, most):
    """The first (n, d) with n = d x modulo m and |n| at most most in the row of Euclid's divisions.

    It is the fraction in lowest terms, if there is one that is x modulo m, has |n| at most most and a
    d for which 2 d most is below m.
    """
    high, low = m, x
    above, below = 0, 1
    while low > most:
        many, rest = divmod(high, low)
        high, low = low, rest
        above, below = below, above - many * below
    if below < 0:
        return (-low, -below)
    return (low, below)


def upper_limit(f, m):
    """Up to where an upper part is looked for modulo m, so that the lower part may go up to m / 2 over it.

    As soon as m is above 2 |c0 cn| all n / d with n dividing c0 and d dividing cn are reached.
    """
    first, last = abs(f[0]), abs(f[-1])
    middle = isqrt(m // 2)
    if first <= middle:
        return first
    if last <= middle:
        return m // (2 * last)
    return middle


def fraction_at(f, x, m):
    """The root of f that is x modulo m, as a pair (n, d), or None if it is not seen modulo m."""
    n, d = near_fraction(x, m, upper_limit(f, m))
    if n == 0 or f[0] % n != 0 or f[-1] % d != 0 or value_scaled(f, n, d) != 0:
        return None
    return (n, d)


def roots_not_nought(f, slope):
    """All roots of f in fractions, in any order; f is not 0 at 0 and has no double roots, slope is f'."""
    p = good_prime(f, slope)
    places = [(x, inverse_mod(value_over(slope, x, p), p)) for x in all_roots(f, p)]
    rest = f
    m = p
    found = []
    while places:
        is_enough = m > 2 * abs(rest[0] * rest[-1])
        left = []
        for place in places:
            told = fraction_at(rest, place[0], m)
            if told is None:
                left.append(place)
            else:
                found.append(told)
                rest = quotient(rest, (-told[0], told[1]))
        m = m * m
        places = [] if is_enough else [lifted_place(f, slope, place, m) for place in left]
    return found
