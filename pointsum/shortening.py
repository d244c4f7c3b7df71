"""Powers divided out of pairs of whole numbers."""

from math import gcd

from pointsum.primes import factors
from pointsum.whole import exact_root, root_of

TRIED = 10000


def divided_by(a, b, u):
    """(a, b) over (u ** 4, u ** 6), as often as both stay whole."""
    fourth = u * u * u * u
    sixth = fourth * u * u
    while a % fourth == 0 and b % sixth == 0:
        a //= fourth
        b //= sixth
    return (a, b)


def without_powers(a, b):
    """(a, b), not both 0, divided so that no prime p has p ** 4 dividing a and p ** 6 dividing b."""
    # A prime that is divided out divides this number at least so often.
    rest, least = (abs(b), 6) if a == 0 else (gcd(a, b), 4)
    p = 2
    most = root_of(rest, least)
    while p <= min(most, TRIED):
        if rest % p == 0:
            a, b = divided_by(a, b, p)
            while rest % p == 0:
                rest //= p
            most = root_of(rest, least)
        p += 1
    return without_great_powers(a, b, rest, least) if most > TRIED else (a, b)


def power_base(n):
    """The least number from 2 on of which n, all of whose primes are above TRIED, is a power."""
    # TRIED is above 2 ** 13.
    for k in range(n.bit_length() // 13, 1, -1):
        r = exact_root(n, k)
        if r is not None:
            return r
    return n


def without_great_powers(a, b, rest, least):
    """The same as without_powers, where only primes that divide rest, all above TRIED, are left."""
    # Most often rest is u ** 4 with the u that is divided out, and needs no factors.
    a, b = divided_by(a, b, power_base(rest))
    rest = gcd(rest, gcd(a, b))
    if root_of(rest, least) > TRIED:
        for p, _ in factors(power_base(rest)):
            a, b = divided_by(a, b, p)
    return (a, b)
