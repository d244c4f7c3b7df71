"""Roots of squares modulo powers of primes, lifting, and sums of two squares and their like."""

from pointsum.modular import inverse_mod
from pointsum.polynomials import derivative, value_at
from pointsum.symbols import is_local_square, root_mod
from pointsum.whole import is_square, power, root, valuation


def odd_unit_root(u, p, k):
    """A root of u modulo p ** k for odd p that does not divide u, a square modulo p."""
    r = root_mod(u, p)
    turn = inverse_mod(2 * r, p)
    m = p
    for _ in range(k - 1):
        m = m * p
        # The divisor 2 r is needed modulo p alone, as r r - u is a multiple of m / p.
        r = (r - (r * r - u) * turn) % m
    return r


def even_unit_root(u, k):
    """A root of u modulo 2 ** k, k from 3 on, u being 1 modulo 8."""
    r = 1
    for j in range(3, k):
        if ((r * r - u) >> j) & 1:
            r += 1 << (j - 1)
    return r


def unit_classes(u, p, k):
    """The classes [(r, j), ..] of the roots modulo p ** k of u, which p does not divide; k from 1 on."""
    if p == 2 and k < 4:
        # One odd square modulo 2, 4 and 8 is the square of each odd number.
        return [(1, 1)] if u % power(2, k) == 1 else []
    if not is_local_square(u, p):
        return []
    if p == 2:
        return both_signs(even_unit_root(u, k), 2, k - 1)
    return both_signs(odd_unit_root(u, p, k), p, k)


def both_signs(r, p, j):
    """The classes of r and of - r modulo p ** j."""
    m = power(p, j)
    return [(r % m, j), (-r % m, j)]


def square_roots(a, p, k):
    """The classes (r, j) of the roots of a modulo p ** k, ascending."""
    a = a % power(p, k)
    if a == 0:
        return ((0, (k + 1) // 2),)
    many = valuation(a, p)
    if many % 2 == 1:
        return ()
    half = many // 2
    scale = power(p, half)
    classes = unit_classes(a // (scale * scale), p, k - many)
    return tuple(sorted([(scale * r, half + j) for r, j in classes]))


def lifted(f, r, p, k):
    """The x modulo p ** (k - e) near r with f(x) = 0 modulo p ** k; None if r is not near enough."""
    slope = derivative(f)
    steep = value_at(slope, r)
    if steep == 0:
        return None
    e = valuation(steep, p)
    if value_at(f, r) % power(p, 2 * e + 1) != 0:
        return None
    scale = power(p, e)
    m = power(p, k)
    x = r % m
    # Each round doubles how far f(x) is a higher power of p than 2 e.
    while value_at(f, x) % m != 0:
        turn = inverse_mod(value_at(slope, x) // scale, m)
        x = (x - value_at(f, x) // scale * turn) % m
    return x % power(p, max(k - e, 0))


def two_squares(n):
    """All (s, t), s from 0 on, s at most t, with s s + t t = n, ascending."""
    out = []
    for s in range(root(n // 2) + 1):
        rest = n - s * s
        if is_square(rest):
            out.append((s, root(rest)))
    return tuple(out)


def three_forms(n):
    """All (s, t), s from 0 on, s at most t, with s s + s t + t t = n, ascending."""
    out = []
    for s in range(root(n // 3) + 1):
        # (2 t + s) ** 2 = 4 n - 3 s s, so the root has the parity of s.
        rest = 4 * n - 3 * s * s
        if is_square(rest):
            out.append((s, (root(rest) - s) // 2))
    return tuple(out)
