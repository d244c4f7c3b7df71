"""Prime numbers: certificates, factors and classes."""

from math import gcd

from pointsum.certificates import SMALL, is_proof, is_refusal
from pointsum.modular import power_mod
from pointsum.splitting import BASES, betrays, has_no_parts, part_of
from pointsum.whole import power

TRIED = 1000


def is_shown(n, value):
    """ "prime" or "not" if a value is a right certificate for n that it is, or is not; or None."""
    if is_refusal(n, value):
        return "not"
    if is_proof(n, value):
        return "prime"
    return None


def is_prime(n):
    """Whether n is prime."""
    return has_no_parts(n)


def shown(n):
    """A right certificate that n is prime, or is not."""
    if n < 2:
        return ("unit",)
    if has_no_parts(n):
        return ("small",) if n < SMALL else shown_by_powers(n)
    if n % 2 == 0:
        return ("factor", 2)
    for a in BASES:
        if a <= n - 2 and betrays(n, a):
            return ("witness", a)
    return ("factor", part_of(n))


def shown_by_powers(n):
    """A certificate ("powers", ..) for a prime n, with the least factors of n - 1 that are enough."""
    rows = []
    told = 1
    for q, e in factors(n - 1):
        if told * told > n:
            break
        rows.append((q, e, base_for(n, q), shown(q)))
        told = told * power(q, e)
    return ("powers", tuple(rows))


def base_for(n, q):
    """The least a for which a ** ((n - 1) / q) is not 1 modulo the prime n."""
    a = 2
    while power_mod(a, (n - 1) // q, n) == 1:
        a += 1
    return a


def small_factors(n):
    """The prime factors of n below TRIED, each as often as it divides n, and what is left."""
    found = []
    p = 2
    while p < TRIED and p * p <= n:
        while n % p == 0:
            found.append(p)
            n //= p
        p += 1
    if 1 < n < TRIED * TRIED:
        found.append(n)
        n = 1
    return (found, n)


def factors(n):
    """The tuple of pairs (p, e) of n, from 1 on, p ascending."""
    found, rest = small_factors(n)
    todo = [rest] if rest > 1 else []
    while todo:
        part = todo.pop()
        if has_no_parts(part):
            found.append(part)
        else:
            d = part_of(part)
            todo.append(d)
            todo.append(part // d)
    times_found = {}
    for p in found:
        times_found[p] = times_found.get(p, 0) + 1
    return tuple([(p, times_found[p]) for p in sorted(times_found)])


def class_of(n):
    """The whole number without square factors that n, not 0, is times a square."""
    result = 1 if n > 0 else -1
    for p, e in factors(abs(n)):
        if e % 2 == 1:
            result = result * p
    return result


def class_of_fraction(f):
    """The class of a fraction other than 0."""
    n, d = f
    # n and d have no common factor, so no square comes by multiplying.
    return class_of(n) * class_of(d)


def class_times(c, d):
    """The class of the product of two classes."""
    shared = gcd(c, d)
    return (c // shared) * (d // shared)
