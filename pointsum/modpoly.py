"""Polynomials modulo a prime: lists of digits, the last one not 0."""

from pointsum.modular import inverse_mod
from pointsum.values import value_over

TRIED = 500


def trimmed(f, p):
    """The coefficients modulo p, without noughts at the end."""
    out = [c % p for c in f]
    while out and out[-1] == 0:
        out.pop()
    return out


def monic(f, p):
    """f, not 0, over its last coefficient."""
    turn = inverse_mod(f[-1], p)
    return [c * turn % p for c in f]


def divided(f, g, p):
    """The whole part and the rest of f over g, whose last coefficient is 1."""
    rest = list(f)
    size = len(g) - 1
    whole = []
    while len(rest) > size:
        top = rest.pop() % p
        whole.append(top)
        at = len(rest) - size
        if top != 0:
            for k in range(size):
                rest[at + k] -= top * g[k]
    whole.reverse()
    return (whole, trimmed(rest, p))


def product_rest(f, g, h, p):
    """f g modulo h, whose last coefficient is 1."""
    if not f or not g:
        return []
    out = [0] * (len(f) + len(g) - 1)
    for i, c in enumerate(f):
        for j, d in enumerate(g):
            out[i + j] += c * d
    return divided(out, h, p)[1]


def power_rest(f, e, h, p):
    """f to the power e modulo h, e from 0 on."""
    result = divided([1], h, p)[1]
    f = divided(f, h, p)[1]
    while e > 0:
        if e & 1:
            result = product_rest(result, f, h, p)
        f = product_rest(f, f, h, p)
        e = e >> 1
    return result


def less_term(f, k, p):
    """f less x to the power k."""
    out = list(f) + [0] * (k + 1 - len(f))
    out[k] -= 1
    return trimmed(out, p)


def common_over(f, g, p):
    """The greatest common part of f and g, not both 0, its last coefficient being 1."""
    while g:
        g = monic(g, p)
        f, g = g, divided(f, g, p)[1]
    return monic(f, p)


def parted_roots(h, p):
    """The roots of h, a product of unlike x - r with last coefficient 1; p is odd, above 3."""
    found = []
    todo = [(h, 0)]
    while todo:
        part, shift = todo.pop()
        if len(part) == 2:
            found.append(-part[0] % p)
        elif len(part) > 2:
            # r + shift is a square for some roots and none for others, for one of the first shifts.
            half = less_term(power_rest([shift, 1], (p - 1) // 2, part, p), 0, p)
            left = common_over(part, half, p)
            right = divided(part, left, p)[0]
            todo.append((left, shift + 1))
            todo.append((right, shift + 1))
    return sorted(found)


def all_roots(f, p):
    """All roots from 0 to p - 1, ascending, of f, which is not 0 modulo p."""
    f = trimmed(f, p)
    if p < TRIED:
        return [x for x in range(p) if value_over(f, x, p) == 0]
    f = monic(f, p)
    fermat = less_term(power_rest([0, 1], p, f, p), 1, p)
    return parted_roots(common_over(f, fermat, p), p)
