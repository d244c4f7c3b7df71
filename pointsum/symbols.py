"""Symbols, and roots of squares modulo a prime."""

from pointsum.errors import OutOfRange
from pointsum.modular import power_mod
from pointsum.whole import odd_part, valuation


def symbol(a, n):
    """The product of the symbols of a over the prime factors of n, odd from 1 on."""
    if n < 1 or n % 2 == 0:
        raise OutOfRange(n)
    a = a % n
    sign = 1
    while a != 0:
        while a % 2 == 0:
            a //= 2
            if n % 8 == 3 or n % 8 == 5:
                sign = -sign
        if a % 4 == 3 and n % 4 == 3:
            sign = -sign
        a, n = n % a, a
    return sign if n == 1 else 0


def least_nonsquare(p):
    """The least number from 2 on that is no square modulo an odd prime p."""
    a = 2
    while symbol(a, p) != -1:
        a += 1
    return a


def any_root(a, p):
    """A root modulo an odd prime p of a, a square there other than 0."""
    many, t = odd_part(p - 1)
    r = power_mod(a, (t + 1) // 2, p)
    left = power_mod(a, t, p)
    turn = power_mod(least_nonsquare(p), t, p)
    # r r is always a * left; the order of left, a power of 2, falls until left is 1.
    while left != 1:
        steps = 0
        x = left
        while x != 1:
            x = x * x % p
            steps += 1
        for _ in range(many - steps - 1):
            turn = turn * turn % p
        r = r * turn % p
        turn = turn * turn % p
        left = left * turn % p
        many = steps
    return r


def root_mod(a, p):
    """The least r from 0 on with r r = a modulo a prime p; None if there is none."""
    a = a % p
    if p == 2 or a == 0:
        return a
    if symbol(a, p) == -1:
        return None
    r = any_root(a, p)
    return min(r, p - r)


def is_local_square(a, p):
    """Whether a has roots modulo every power of the prime p."""
    if a == 0:
        return True
    many = valuation(a, p)
    if many % 2 == 1:
        return False
    for _ in range(many):
        a //= p
    if p == 2:
        return a % 8 == 1
    return symbol(a, p) == 1
