"""Prime numbers and divisors of whole numbers by repeated squaring."""

from math import gcd, isqrt

from pointsum.modular import power_mod
from pointsum.whole import odd_part

# The first primes up to 41 tell each n below 3 * 10 ** 24 whether it is prime (a known count);
# below the first number of a row its second one of them are enough.
BASES = (2, 3, 5, 7, 11, 13, 17, 19, 23, 29, 31, 37, 41)
ENOUGH = (
    (1373653, 2),
    (3215031751, 4),
    (3474749660383, 6),
    (341550071728321, 7),
    (3825123056546413051, 9),
    (318665857834031151167461, 12),
)
ROUND = 128


def betrays(n, a):
    """Whether a shows that n, odd from 3 on, is not prime, as ("witness", a) tells it."""
    many, t = odd_part(n - 1)
    x = power_mod(a, t, n)
    if x == 1 or x == n - 1:
        return False
    for _ in range(many - 1):
        x = x * x % n
        if x == n - 1:
            return False
    return True


def bases_for(n):
    """The bases that tell whether n is prime."""
    for limit, many in ENOUGH:
        if n < limit:
            return BASES[:many]
    return BASES


def has_no_parts(n):
    """Whether n is prime."""
    if n < 2:
        return False
    for p in BASES:
        if n % p == 0:
            return n == p
    for a in bases_for(n):
        if betrays(n, a):
            return False
    return True


def cycle_part(n, c):
    """A divisor of n above 1, by the row y, y y + c, .. modulo n; n itself if this row tells none."""
    y = 2
    shared = 1
    length = 1
    while shared == 1:
        x = y
        for _ in range(length):
            y = (y * y + c) % n
        done = 0
        while done < length and shared == 1:
            start = y
            together = 1
            for _ in range(min(ROUND, length - done)):
                y = (y * y + c) % n
                together = together * (x - y) % n
            shared = gcd(together, n)
            done += ROUND
        length = 2 * length
    if shared < n:
        return shared
    return slow_part(n, c, x, start)


def slow_part(n, c, x, y):
    """The first divisor above 1 that the row behind y has with x, step by step."""
    shared = 1
    while shared == 1:
        y = (y * y + c) % n
        shared = gcd(x - y, n)
    return shared


def part_of(n):
    """A divisor of n other than 1 and n; n is odd and not prime."""
    r = isqrt(n)
    if r * r == n:
        return r
    c = 1
    while True:
        shared = cycle_part(n, c)
        if shared < n:
            return shared
        c += 1
