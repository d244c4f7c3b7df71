"""Classes of numbers modulo powers of a prime, and what is told there of F(t) = top t ** 4 + middle t t + last.

A form is the triple (top, middle, last); a class is the pair (r, q), q a power of p: all t = r + q u.
"""

from pointsum.modpoly import monic, trimmed
from pointsum.symbols import symbol
from pointsum.values import value_over
from pointsum.whole import power, valuation


def value_at_place(form, r):
    """F(r)."""
    top, middle, last = form
    rr = r * r
    return last + rr * (middle + rr * top)


def moved(form, r, q):
    """The coefficients of F(r + q u) as a polynomial in u."""
    top, middle, _ = form
    rr, qq = r * r, q * q
    return (
        value_at_place(form, r),
        2 * q * r * (middle + 2 * top * rr),
        qq * (middle + 6 * top * rr),
        4 * qq * q * r * top,
        qq * qq * top,
    )


def least_valuation(numbers, p):
    """The least valuation of those of some numbers that are not 0."""
    return min([valuation(n, p) for n in numbers if n != 0])


def is_barred(form, r, q):
    """Whether a class, q a power of 2, is barred: the signs of F there show that no value is a local square."""
    coefficients = moved(form, r, q)
    first = coefficients[0]
    if first == 0:
        return False
    v = valuation(first, 2)
    beyond = least_valuation(coefficients[1:], 2) - v
    if beyond < 1:
        return False
    unit = first >> v
    return v % 2 == 1 or (beyond >= 3 and unit % 8 != 1) or (beyond == 2 and unit % 4 == 3)


def scaled_form(form, p, r, q):
    """(e, h): the least valuation of the coefficients of F(r + q u), and these over p ** e."""
    coefficients = moved(form, r, q)
    e = least_valuation(coefficients, p)
    scale = power(p, e)
    return (e, tuple([c // scale for c in coefficients]))


def is_square_form(f, p):
    """Whether a polynomial modulo an odd p, of degree at most 4 with last coefficient 1, is the square of one."""
    degree = len(f) - 1
    if degree % 2 == 1:
        return False
    if degree == 0:
        return True
    if degree == 2:
        return (f[1] * f[1] - 4 * f[0]) % p == 0
    half = (p + 1) // 2
    first = f[3] * half % p
    last = (f[2] - first * first) * half % p
    return (f[1] - 2 * first * last) % p == 0 and (f[0] - last * last) % p == 0


def square_place(h, p):
    """The least u for which h(u) is a square modulo an odd p other than 0; None if there is none."""
    digits = trimmed(h, p)
    # Where h is c g g and c no square there is none; elsewhere one comes soon, if p is great.
    if symbol(digits[-1], p) == -1 and is_square_form(monic(digits, p), p):
        return None
    for u in range(p):
        if symbol(value_over(digits, u, p), p) == 1:
            return u
    return None
