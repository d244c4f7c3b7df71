"""Certificates for great primes, and small helpers by looking at everything, for the tests."""

from fractions import Fraction
from math import isqrt

SMALL = ("small",)

# 8470329472543003315 * 2 ** 70 + 1
PROTH = 9999999999999999910649018728105702850561
PROTH_CERT = ("powers", ((2, 70, 3, SMALL),))

GREAT = 9999999999999999999999999999999999999787
GREAT_CERT = (
    "curve", (0, 14), (1, 4440154915014618124852641210514726585822), 1119, 8936550491510277032993996977811895091, (
        "curve", (0, 6), (2, 5548707290851059718807780653906165793), 9, 992950054612253003211608909830010551, (
            "curve", (0, 1), (1, 620751760259189085932217947236669985), 156, 6365064452642647468924556812930543, (
                "curve", (0, 1), (1, 1791378089480087536312609100805748), 9095929356, 699770656029119621462911, (
                    "curve", (0, 6), (1, 150660148212641646503287), 2604476503, 268679965137583, (
                        "curve", (0, 10), (1, 74651342128771), 3892591, 69023419, (
                            "curve", (0, 5), (1, 33583633), 273, 252877, SMALL)))))))

# Of the steps behind the second one all have b = 0.
OTHER = 9999999999999999999999999999999999999799
OTHER_CERT = (
    "curve", (0, 4), (1, 8708837300815890963491849944578996257042), 995007, 10050180551493607582569374028014473, (
        "curve", (0, 1), (1, 9997692948460487415873895902039180), 3733133295168, 2692156897933998149737, (
            "curve", (10, 0), (1, 959540793716664567999), 2411890, 1116202189093553, (
                "curve", (1, 0), (3, 905713923690226), 208, 5366356928381, (
                    "curve", (4, 0), (1, 2502602185100), 962600, 5574857, (
                        "curve", (1, 0), (3, 3621855), 80, 69661, SMALL))))))


def is_prime_slowly(n):
    return n > 1 and all(n % d for d in range(2, int(n ** 0.5) + 1))


def added_slowly(p, a, P, Q):
    """The sum of two points of y y = x x x + a x + b over a prime p, None for O."""
    if P is None or Q is None:
        return P if Q is None else Q
    if P[0] == Q[0] and (P[1] + Q[1]) % p == 0:
        return None
    if P == Q:
        k = (3 * P[0] * P[0] + a) * pow(2 * P[1], -1, p)
    else:
        k = (Q[1] - P[1]) * pow(Q[0] - P[0], -1, p)
    x = (k * k - P[0] - Q[0]) % p
    return (x, (k * (P[0] - x) - P[1]) % p)


def times_slowly(p, a, k, P):
    """k P by adding P again and again."""
    out = None
    for _ in range(k):
        out = added_slowly(p, a, out, P)
    return out


def points_slowly(p, a, b):
    """All points but O of y y = x x x + a x + b over p."""
    squares = {}
    for y in range(p):
        squares.setdefault(y * y % p, []).append(y)
    return [(x, y) for x in range(p) for y in squares.get((x * x * x + a * x + b) % p, [])]


def frac(pair):
    return Fraction(pair[0], pair[1])


def pair(f):
    f = Fraction(f)
    return (f.numerator, f.denominator)


def plus_slowly(curve, P, Q):
    """The sum of two points of five numbers a1, .., a6, letters as Fractions, None for zero."""
    a1, a2, a3, a4, _ = curve
    if P is None or Q is None:
        return P if Q is None else Q
    (x, y), (z, w) = P, Q
    if x == z and w == -y - a1 * x - a3:
        return None
    k = (3 * x * x + 2 * a2 * x + a4 - a1 * y) / (2 * y + a1 * x + a3) if P == Q else (w - y) / (z - x)
    e = k * k + a1 * k - a2 - x - z
    return (e, -(k * (e - x) + y) - a1 * e - a3)


def minus_slowly(curve, P):
    return None if P is None else (P[0], -P[1] - curve[0] * P[0] - curve[2])


def many_slowly(curve, n, P):
    """n P by adding P again and again."""
    if n < 0:
        return many_slowly(curve, -n, minus_slowly(curve, P))
    out = None
    for _ in range(n):
        out = plus_slowly(curve, out, P)
    return out


def told_point(P):
    """A point of Fractions as the package tells it."""
    return () if P is None else (pair(P[0]), pair(P[1]))


def right_point(point):
    """A point of the package with Fractions as letters."""
    return None if point == () else (frac(point[0]), frac(point[1]))


def whole_points_slowly(curve, most):
    """All points of five integers with whole letters and an x of an amount to most, as the package tells them."""
    a1, a2, a3, a4, a6 = curve
    found = []
    for x in range(-most, most + 1):
        b, c = a1 * x + a3, x ** 3 + a2 * x * x + a4 * x + a6
        square = b * b + 4 * c
        r = isqrt(max(square, 0))
        if r * r == square:
            found += [((x, 1), ((z - b) // 2, 1)) for z in sorted({-r, r}) if (z - b) % 2 == 0]
    return found


def order_of_points(points):
    """Points in their order: zero first, then by x, then by y."""
    return tuple(sorted(points, key=lambda P: () if P == () else (frac(P[0]), frac(P[1]))))
