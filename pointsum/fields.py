"""Curves over small fields: digits modulo a prime p; points are () or pairs of digits."""

from pointsum.curves import are_whole, five, numbers_of
from pointsum.modular import inverse_mod
from pointsum.symbols import least_nonsquare
from pointsum.values import value_over


def are_digits(p, value, many):
    """Whether a value is a tuple of so many digits."""
    return are_whole(value, many) and all([0 <= n < p for n in value])


def is_curve_over(p, value):
    """Whether a value, any one, is a curve over p."""
    return are_digits(p, value, 5) and numbers_of(value)[6] % p != 0


def curve_modulo(curve, p):
    """The digits of a curve whose discriminant p does not divide; otherwise None."""
    if numbers_of(curve)[6] % p == 0:
        return None
    return digits_of(curve, p)


def digits_of(curve, p):
    """The five numbers of a curve modulo p."""
    return tuple([n % p for n in five(curve)])


def is_point_over(p, curve, value):
    """Whether a value, any one, is a point of a curve over p."""
    if value == ():
        return True
    return are_digits(p, value, 2) and is_solution(p, curve, value[0], value[1])


def is_solution(p, curve, x, y):
    """Whether two digits satisfy the equation of five digits."""
    a1, a2, a3, a4, a6 = curve
    return (y * (y + a1 * x + a3) - a6 - x * (a4 + x * (a2 + x))) % p == 0


def opposite_over(p, curve, P):
    """The point that makes zero with P."""
    if P == ():
        return ()
    return (P[0], (-P[1] - curve[0] * P[0] - curve[2]) % p)


def added_over(p, curve, P, Q):
    """The sum of two points."""
    if P == ():
        return Q
    if Q == ():
        return P
    a1, a2, a3, a4, _ = curve
    x, y = P
    if x != Q[0]:
        k = (Q[1] - y) * inverse_mod(Q[0] - x, p)
    elif (y + Q[1] + a1 * x + a3) % p == 0:
        return ()
    else:
        k = (x * (3 * x + 2 * a2) + a4 - a1 * y) * inverse_mod(2 * y + a1 * x + a3, p)
    x3 = (k * (k + a1) - a2 - x - Q[0]) % p
    return (x3, (k * (x - x3) - y - a1 * x3 - a3) % p)


def multiple_over(p, curve, n, P):
    """n times P, n any whole number."""
    if n < 0:
        n, P = -n, opposite_over(p, curve, P)
    result = ()
    while n > 0:
        if n & 1:
            result = added_over(p, curve, result, P)
        P = added_over(p, curve, P, P)
        n = n >> 1
    return result


def root_table(p):
    """A list that has at each digit, for odd p, the list of its roots, ascending."""
    roots = [[] for _ in range(p)]
    for z in range(p):
        roots[z * z % p].append(z)
    return roots


def cubic_of(p, curve):
    """The polynomial in x that is the square of 2 y + a1 x + a3."""
    b2, b4, b6, _, _, _, _ = numbers_of(curve)
    return (b6 % p, 2 * b4 % p, b2 % p, 4)


def points_over(p, curve):
    """All points of a curve over p, ascending."""
    if p == 2:
        pairs = [(x, y) for x in range(2) for y in range(2) if is_solution(p, curve, x, y)]
        return ((), *pairs)
    roots = root_table(p)
    cubic = cubic_of(p, curve)
    half = (p + 1) // 2
    found = [()]
    for x in range(p):
        shift = curve[0] * x + curve[2]
        digits = [(z - shift) * half % p for z in roots[value_over(cubic, x, p)]]
        found.extend([(x, y) for y in sorted(digits)])
    return tuple(found)


def count_over(p, curve):
    """The number of points of a curve over p."""
    if p == 2:
        return len(points_over(p, curve))
    many = [0] * p
    for z in range(p):
        many[z * z % p] += 1
    cubic = cubic_of(p, curve)
    return 1 + sum([many[value_over(cubic, x, p)] for x in range(p)])


def twist_over(p, curve):
    """The twist of a curve by the least digit that is no square; p odd."""
    d = least_nonsquare(p)
    b2, b4, b6, _, _, _, _ = numbers_of(curve)
    return digits_of((0, d * b2, 0, 8 * d * d * b4, 16 * d * d * d * b6), p)


def led_over(p, curve, change):
    """The curve over p to which a change of digits leads a curve."""
    a1, a2, a3, a4, a6 = curve
    u, r, s, t = change
    v = inverse_mod(u, p)
    fourth = a4 - s * a3 + 2 * r * a2 - (t + r * s) * a1 + 3 * r * r - 2 * s * t
    last = a6 + r * (a4 + r * (a2 + r)) - t * (a3 + t + r * a1)
    return (
        v * (a1 + 2 * s) % p,
        v * v * (a2 - s * a1 + 3 * r - s * s) % p,
        v * v * v * (a3 + r * a1 + 2 * t) % p,
        v * v * v * v * fourth % p,
        v * v * v * v * v * v * last % p,
    )


def changes_over(p, curve, other):
    """All changes that lead a curve over p to an other one, ascending."""
    found = []
    for u in range(1, p):
        # Each letter has to fit the first equation in which it stands; that leaves few changes to try.
        for s in range(p):
            if (curve[0] + 2 * s - u * other[0]) % p != 0:
                continue
            for r in range(p):
                if (curve[1] - s * curve[0] + 3 * r - s * s - u * u * other[1]) % p != 0:
                    continue
                for t in range(p):
                    change = (u, r, s, t)
                    if led_over(p, curve, change) == other:
                        found.append(change)
    return tuple(sorted(found))


def classes_over(p):
    """One (curve, number of own changes, N) for each class of alike curves, the least one, ascending."""
    digits = range(p)
    changes = [(u, r, s, t) for u in range(1, p) for r in digits for s in digits for t in digits]
    fives = [(a, b, c, d, e) for a in digits for b in digits for c in digits for d in digits for e in digits]
    seen = set()
    found = []
    for curve in fives:
        if curve in seen or not is_curve_over(p, curve):
            continue
        own = 0
        for change in changes:
            other = led_over(p, curve, change)
            seen.add(other)
            if other == curve:
                own += 1
        found.append((curve, own, count_over(p, curve)))
    return tuple(found)
