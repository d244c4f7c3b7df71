"""Twists of curves by numbers without square factors."""

from pointsum.curves import short_form
from pointsum.errors import BadNumber
from pointsum.fractions import root_of_fraction
from pointsum.primes import class_of
from pointsum.shortening import without_powers
from pointsum.whole import is_square, lowest

MOST = 10000


def twist(curve, d):
    """The short form (A, B) of the twist of a curve by d."""
    if d == 0 or class_of(d) != d:
        raise BadNumber(d)
    a, b = short_form(curve)
    return without_powers(d * d * a, d * d * d * b)


def small_class(f):
    """The class of a fraction, not 0, if its amount is at most MOST; otherwise None."""
    n, d = f
    rest = abs(n * d)
    result = 1 if n > 0 else -1
    p = 2
    while p <= MOST and p * p <= rest:
        odd = False
        while rest % p == 0:
            rest //= p
            odd = not odd
        if odd:
            result = result * p
        p += 1
    # All primes of a class in reach are tried; one that is left alone may be such a prime, too.
    if not is_square(rest):
        result = result * rest
    return result if abs(result) <= MOST else None


def twist_between(curve, other):
    """The d of the least amount, to 10,000, the one above 0 of two, twisting a curve to the other; or None."""
    a, b = short_form(curve)
    c, d = short_form(other)
    if a * a * a * d * d != c * c * c * b * b:
        return None
    # The other one has u ** 4 c = t t a and u ** 6 d = t t t b for the t that is asked, told up to squares.
    if a == 0:
        ratio = root_of_fraction(lowest(d, b), 3)
    elif b == 0:
        ratio = root_of_fraction(lowest(c, a), 2)
    else:
        ratio = lowest(a * d, c * b)
    return None if ratio is None else small_class(ratio)
