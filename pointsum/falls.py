"""How the least model of a curve falls at a prime: singular points, tangents, smooth points."""

from pointsum.curves import numbers_of
from pointsum.fields import count_over, cubic_of, digits_of, is_solution
from pointsum.models import least_and_scale
from pointsum.polynomials import roots_over
from pointsum.whole import valuation


def is_flat(p, curve, x, y):
    """Whether both slopes of the equation of five digits are 0 at two digits."""
    a1, a2, a3, a4, _ = curve
    return (2 * y + a1 * x + a3) % p == 0 and (x * (3 * x + 2 * a2) + a4 - a1 * y) % p == 0


def singular_places(p, curve):
    """The list of the singular points of five digits: one or none."""
    if p == 2:
        pairs = [(x, y) for x in range(2) for y in range(2) if is_solution(2, curve, x, y)]
    else:
        # At a singular point 2 y + a1 x + a3 and so its square, the cubic, are 0.
        half = (p + 1) // 2
        pairs = [(x, -(curve[0] * x + curve[2]) * half % p) for x in roots_over(cubic_of(p, curve), p)]
    return [(x, y) for x, y in pairs if is_flat(p, curve, x, y)]


def singular_point(curve, p):
    """The singular point of the least model modulo a prime p; None if it has none."""
    least = least_and_scale(curve)[0]
    if numbers_of(least)[6] % p != 0:
        return None
    return singular_places(p, digits_of(least, p))[0]


def tangents_at(least, p):
    """The tangents of a least model whose discriminant p divides, ascending."""
    digits = digits_of(least, p)
    x = singular_places(p, digits)[0][0]
    return roots_over((-digits[1] - 3 * x, digits[0], 1), p)


def tangents(curve, p):
    """The tangents of the least model modulo a prime p, ascending; () if it falls "smooth"."""
    least = least_and_scale(curve)[0]
    return () if numbers_of(least)[6] % p != 0 else tangents_at(least, p)


def word_at(least, p):
    """The word that tells how a least model falls at a prime p."""
    _, _, _, _, c4, _, d = numbers_of(least)
    if d % p != 0:
        return "smooth"
    if c4 % p == 0:
        return "additive"
    return "split" if len(tangents_at(least, p)) == 2 else "unsplit"


def fall_at(curve, p):
    """How a curve falls at a prime p: "smooth", "additive", "split" or "unsplit"."""
    return word_at(least_and_scale(curve)[0], p)


def falls(curve, most):
    """(p, e, WORD) for all primes p to most that divide the discriminant of the least model, e times."""
    least = least_and_scale(curve)[0]
    d = numbers_of(least)[6]
    rest = d
    found = []
    for p in range(2, most + 1):
        # What divides the rest first is a prime.
        if rest % p == 0:
            e = valuation(rest, p)
            for _ in range(e):
                rest //= p
            found.append((p, e, word_at(least, p)))
    return tuple(found)


def smooth_count(curve, p):
    """The number of smooth points of the least model over a prime p."""
    least = least_and_scale(curve)[0]
    word = word_at(least, p)
    if word == "smooth":
        return count_over(p, digits_of(least, p))
    if word == "additive":
        return p
    return p - 1 if word == "split" else p + 1
