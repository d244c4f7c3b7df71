"""Whole numbers: roots, valuations, common divisors, powers, and pairs in lowest terms."""

from math import gcd, isqrt


def root(n):
    """The greatest r with r r at most n, n from 0 on."""
    return isqrt(n)


def is_square(n):
    """Whether n, of any sign, is the square of a whole number."""
    if n < 0:
        return False
    r = isqrt(n)
    return r * r == n


def valuation(n, p):
    """How often p, from 2 on, divides n, which is not 0."""
    many = 0
    while n % p == 0:
        n //= p
        many += 1
    return many


def odd_part(n):
    """The pair (s, t), t odd, with n = 2 ** s t, n not 0."""
    s = valuation(n, 2)
    return (s, n >> s)


def common(a, b):
    """The greatest number that divides both; 0 if both are 0."""
    return gcd(a, b)


def is_whole(value):
    """Whether a value is an integer; True and False are none."""
    return type(value) is int


def is_tuple(value, many):
    """Whether a value is a tuple of so many values."""
    return isinstance(value, tuple) and len(value) == many


def power(a, e):
    """a to the power e, e from 0 on."""
    result = 1
    while e > 0:
        if e & 1:
            result = result * a
        e = e >> 1
        if e > 0:
            a = a * a
    return result


def lowest(n, d):
    """The fraction n / d, d not 0, in lowest terms."""
    shared = gcd(n, d)
    if d < 0:
        shared = -shared
    return (n // shared, d // shared)


def root_of(n, k):
    """The greatest r with r ** k at most n, n from 0 on, k from 1 on."""
    if n < 2 or k == 1:
        return n
    if k == 2:
        return isqrt(n)
    # A start above the root makes each step go down until the root is reached.
    r = 1 << (n.bit_length() // k + 1)
    while True:
        better = ((k - 1) * r + n // power(r, k - 1)) // k
        if better >= r:
            return r
        r = better


def exact_root(n, k):
    """The whole number whose k-th power is n, from 0 on for even k; None if there is none."""
    if n < 0:
        if k % 2 == 0:
            return None
        r = exact_root(-n, k)
        return None if r is None else -r
    r = root_of(n, k)
    return r if power(r, k) == n else None
