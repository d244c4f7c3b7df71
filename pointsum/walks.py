"""Walks on a curve y y = x x x + a x + b modulo n.

A walk keeps its place as three letters (X, Y, Z) with x = X / (Z Z) and y = Y / (Z Z Z), so that it
divides once only, at its end. Z has no common factor with n, so the divisors 2 y and x2 - x1 have
the same common factors with n as Y and the difference of the X, brought to one Z.
"""

from math import gcd

from pointsum.modular import inverse_mod


def doubled(n, a, place):
    """Twice a place: a place, () for O, or ("broken", d)."""
    if place == ():
        return ()
    x, y, z = place
    if y == 0:
        return ()
    shared = gcd(y, n)
    if shared > 1:
        return ("broken", shared)
    yy = y * y % n
    zz = z * z % n
    s = 4 * x * yy % n
    m = (3 * x * x + a * zz * zz) % n
    x3 = (m * m - 2 * s) % n
    y3 = (m * (s - x3) - 8 * yy * yy) % n
    return (x3, y3, 2 * y * z % n)


def joined(n, a, place, point):
    """A place and a point (x, y) added: a place, () for O, or ("broken", d), d perhaps None."""
    if place == ():
        return (point[0], point[1], 1)
    x, y, z = place
    zz = z * z % n
    across = (point[0] * zz - x) % n
    lifted_y = point[1] * zz * z
    up = (lifted_y - y) % n
    if across == 0:
        if (lifted_y + y) % n == 0:
            return ()
        return doubled(n, a, place) if up == 0 else ("broken", None)
    shared = gcd(across, n)
    if shared > 1:
        return ("broken", shared)
    square = across * across % n
    cube = square * across % n
    base = x * square % n
    x3 = (up * up - cube - 2 * base) % n
    y3 = (up * (base - x3) - y * cube) % n
    return (x3, y3, z * across % n)


def settled(n, place):
    """The pair (x, y) of a place, () for O."""
    if place == ():
        return ()
    x, y, z = place
    turn = inverse_mod(z, n)
    square = turn * turn % n
    return (x * square % n, y * square * turn % n)


def walk(n, a, point, k):
    """k times a point, () for O: ("point", P), or ("broken", d) where the walk breaks first.

    d is the greatest common factor of n and the divisor, None if the walk breaks without a division.
    """
    if point == ():
        return ("point", ())
    place = ()
    for at in range(k.bit_length() - 1, -1, -1):
        place = doubled(n, a, place)
        if len(place) != 2 and (k >> at) & 1:
            place = joined(n, a, place, point)
        if len(place) == 2:
            return place
    return ("point", settled(n, place))
