"""Sums of multiples of points, of any size, and a great prime that tells such sums apart."""

from pointsum.curves import numbers_of
from pointsum.fields import added_over, opposite_over
from pointsum.points import added, opposite
from pointsum.splitting import has_no_parts

# A prime; sums of points that are unlike are hardly ever one modulo a prime from here on.
GREAT = 2305843009213693951


def many_times(curve, n, point):
    """n times a point, without any limit."""
    if n < 0:
        n, point = -n, opposite(curve, point)
    result = ()
    while n > 0:
        if n & 1:
            result = added(curve, result, point)
        n = n >> 1
        if n > 0:
            point = added(curve, point, point)
    return result


def sum_of_multiples(curve, numbers, points):
    """The sum of the multiples of points that numbers tell."""
    place = ()
    for n, point in zip(numbers, points):
        place = added(curve, place, many_times(curve, n, point))
    return place


def great_prime(curve):
    """The first prime from GREAT on that does not divide the discriminant."""
    d = numbers_of(curve)[6]
    p = GREAT
    while d % p == 0 or not has_no_parts(p):
        p += 2
    return p


def sum_over(p, over_p, place, parts):
    """The sum over p of a place and some parts."""
    for part in parts:
        place = added_over(p, over_p, place, part)
    return place


def small_multiples(p, over_p, place, most):
    """The list of (n, n times a place over p) for all n of amounts to most."""
    rows = [(0, ())]
    many = ()
    for n in range(1, most + 1):
        many = added_over(p, over_p, many, place)
        rows.append((n, many))
        rows.append((-n, opposite_over(p, over_p, many)))
    return rows


def greatest_amount(row):
    """The greatest amount of the numbers that a row begins with; 0 if there are none."""
    return max([abs(n) for n in row[0]], default=0)


def tried_rows(p, over_p, places, most):
    """All rows of numbers of amounts to most for places over p, the lower ones first: (numbers, multiples)."""
    rows = [((), ())]
    for place in places:
        multiples = small_multiples(p, over_p, place, most)
        rows = [((*numbers, n), (*parts, part)) for numbers, parts in rows for n, part in multiples]
    return sorted(rows, key=greatest_amount)
