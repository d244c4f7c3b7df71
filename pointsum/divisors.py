"""Common parts of polynomials with whole coefficients, tuples (c0, c1, ..)."""

from math import gcd, isqrt

from pointsum.modpoly import common_over, trimmed
from pointsum.values import value_whole

# A prime at which most polynomials without a common part show that they have none.
LOOK = 2305843009213693951


def content_of(f):
    """The greatest number that divides all coefficients; 0 for ()."""
    shared = 0
    for c in f:
        shared = gcd(shared, c)
        if shared == 1:
            return 1
    return shared


def primitive(f):
    """f without common factor of its coefficients, the last one above 0; () for ()."""
    shared = content_of(f)
    if shared == 0:
        return ()
    if f[-1] < 0:
        shared = -shared
    return tuple([c // shared for c in f])


def quotient(f, g):
    """f over g, g not (), with whole coefficients; None if there is no such polynomial."""
    rest = list(f)
    size = len(g) - 1
    whole = []
    while len(rest) > size:
        top, over = divmod(rest.pop(), g[-1])
        if over != 0:
            return None
        whole.append(top)
        at = len(rest) - size
        if top != 0:
            for k in range(size):
                rest[at + k] -= top * g[k]
    if any(rest):
        return None
    whole.reverse()
    return tuple(whole)


def spread(n, x):
    """The polynomial with coefficients of amounts up to x / 2 whose value at x is n."""
    out = []
    while n != 0:
        n, digit = divmod(n, x)
        if 2 * digit > x:
            digit -= x
            n += 1
        out.append(digit)
    return tuple(out)


def are_apart(f, g):
    """True if f and g, not (), surely have no common part; False if this look does not tell."""
    if f[-1] % LOOK == 0:
        return False
    return len(common_over(trimmed(f, LOOK), trimmed(g, LOOK), LOOK)) == 1


def greatest(f):
    """The greatest amount of a coefficient of f, not ()."""
    return max([abs(c) for c in f])


def shared_part(f, g):
    """The common part of greatest degree of f and g, both primitive, not ().

    With h the common part and G the polynomial spread from the common factor of the values at x:
    if its primitive part P divides both, h = P k, and k(x) divides the content of G, which is at most
    x / 2. All roots of k are amounts up to 1 + the greatest coefficient of f (or of g), so for
    x from 4 + twice that one on k(x) would be above x / 2 if k were no number: P is h.
    """
    if len(f) == 1 or len(g) == 1 or are_apart(f, g):
        return (1,)
    x = 2 * min(greatest(f), greatest(g)) + 29
    while True:
        part = primitive(spread(gcd(value_whole(f, x), value_whole(g, x)), x))
        if part != () and quotient(f, part) is not None and quotient(g, part) is not None:
            return part
        # A greater x ends it: the common factor of the values is h(x) times a bounded number.
        x = x * (isqrt(isqrt(x)) + 2)
