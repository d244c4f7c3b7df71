"""Equations in whole numbers whose solutions are all told: quartics with a square ahead, sums of cubes, lines."""

from pointsum.whole import is_square, root
from pointsum.wholepoints import points_at_whole, square_places


def look_limit(a, rest, r1, r0):
    """A number from the greater root of [95] on: beyond it only a root of R can be an answer."""
    slope = 8 * abs(a) + abs(r1)
    last = 2 * abs(rest) + 1 + abs(r0)
    return (slope + root(slope * slope + 64 * last)) // 32 + 1


def quartic_points(a, b, c, d):
    """All whole (x, y) with y y = x x x x + a x x x + b x x + c x + d: ("all", POINTS), or ("square", W) if R is 0."""
    rest = 4 * b - a * a
    r1 = 64 * c - 8 * a * rest
    r0 = 64 * d - rest * rest
    if r1 == 0 and r0 == 0:
        return ("square", (8, 4 * a, rest))
    f = (d, c, b, a, 1)
    limit = look_limit(a, rest, r1, r0)
    found = list(square_places(f, limit))
    if r1 != 0 and r0 % r1 == 0 and abs(r0 // r1) > limit:
        found.extend(points_at_whole(f, -r0 // r1))
    return ("all", tuple(sorted(found)))


def cube_sums(n):
    """All whole (x, y) with x x x + y y y = n, not 0, ascending."""
    sign = 1 if n > 0 else -1
    found = []
    s = sign
    while abs(s * s * s) <= 4 * abs(n):
        if n % s == 0 and (s * s - n // s) % 3 == 0:
            product = (s * s - n // s) // 3
            # The roots of t t - s t + product are (s - r) / 2 and (s + r) / 2.
            square = s * s - 4 * product
            if is_square(square) and (s - root(square)) % 2 == 0:
                x = (s - root(square)) // 2
                found.extend([(x, s - x), (s - x, x)] if x != s - x else [(x, x)])
        s += sign
    return tuple(sorted(found))


def divisors_of(n):
    """The list of all divisors, of either sign, of n, not 0."""
    n = abs(n)
    found = []
    for k in range(1, root(n) + 1):
        if n % k == 0:
            found.extend([k, -k] if k * k == n else [k, -k, n // k, -n // k])
    return found


def line_products(p, q, r, n):
    """All whole (x, y) with (x - p y)(x - q y)(x - r y) = n, not 0, ascending; p, q, r are unlike."""
    found = []
    divisors = divisors_of(n)
    for u in divisors:
        for v in divisors:
            if (u - v) % (q - p) == 0:
                y = (u - v) // (q - p)
                x = u + p * y
                if u * v * (x - r * y) == n:
                    found.append((x, y))
    return tuple(sorted(found))
