"""Counting of real roots of polynomials without double roots, by changes of sign.

For a polynomial h of degree n the coefficients of (1 + t) ** n h(1 / (1 + t)) change their signs at
least as often as h has roots between 0 and 1, exactly as often if that is 0 or 1 times (Descartes).
Where an interval is cut, the changes of its parts and the roots at the cuts come to no more than
its own changes; and in intervals that are small against the distances of the roots, changes are 0
or 1. So any cutting ends; cutting near a heap of roots makes it end soon.
"""

from itertools import accumulate

from pointsum.divisors import content_of

# Fewer bits than these make no interval that is worth a try.
LEAST_BITS = 4


def shifted_by_one(f):
    """The coefficients of f(1 + t)."""
    rest = list(f)
    rest.reverse()
    out = []
    while rest:
        rest = list(accumulate(rest))
        out.append(rest.pop())
    return out


def shifted(f, s):
    """The coefficients of f(s + t)."""
    rest = list(f)
    rest.reverse()
    out = []
    while rest:
        total = 0
        row = []
        for c in rest:
            total = total * s + c
            row.append(total)
        out.append(row.pop())
        rest = row
    return out


def scaled(f, s):
    """The coefficients of f(s t)."""
    out = []
    factor = 1
    for c in f:
        out.append(c * factor)
        factor = factor * s
    return out


def spread_out(f, bits):
    """The coefficients of 2 ** (bits n) f(t / 2 ** bits), n the degree."""
    n = len(f) - 1
    return [c << (bits * (n - k)) for k, c in enumerate(f)]


def sign_changes(f):
    """How often the sign changes from one coefficient that is not 0 to the next one."""
    many = 0
    ahead = 0
    for c in f:
        if c != 0:
            if ahead != 0 and (c > 0) != (ahead > 0):
                many += 1
            ahead = c
    return many


def changes_inside(h):
    """The changes that tell of roots between 0 and 1."""
    turned = list(h)
    turned.reverse()
    return sign_changes(shifted_by_one(turned))


def halves(h):
    """h on the lower and on the upper half of the interval from 0 to 1, each as from 0 to 1."""
    left = spread_out(h, 1)
    return (left, shifted_by_one(left))


def guesses(h, changes):
    """Pairs (n, d), d above 0: where a heap of as many roots as changes would lie, seen from 0 and 1."""
    out = []
    slope_at_one = sum([k * c for k, c in enumerate(h)])
    for start, value, slope in ((0, h[0], h[1]), (1, sum(h), slope_at_one)):
        if slope != 0:
            n, d = start * slope - changes * value, slope
            if d < 0:
                n, d = -n, -d
            if 0 <= n <= d:
                out.append((n, d))
    return out


def closer(h, changes, bits):
    """h on a short interval, of a width of at most 3 / 2 ** bits, that keeps all changes; or None."""
    for n, d in guesses(h, changes):
        cell = (n << bits) // d
        low = max(cell - 1, 0)
        high = min(cell + 2, 1 << bits)
        part = scaled(shifted(spread_out(h, bits), low), high - low)
        if changes_inside(part) == changes:
            return part
    return None


def count_inside(h):
    """How many roots h, not 0 and without double roots, has between 0 and 1, both left out."""
    total = 0
    todo = [(h, changes_inside(h), 1)]
    while todo:
        part, changes, bits = todo.pop()
        if changes < 2:
            total += changes
            continue
        if bits >= LEAST_BITS:
            near = closer(part, changes, bits)
            if near is not None:
                todo.append((near, changes, 2 * bits))
                continue
            bits = bits // 4
        left, right = halves(part)
        if right[0] == 0:
            total += 1
        for half in (left, right):
            kept = changes_inside(half)
            # A half with all changes speaks for a heap of roots; the more often, the smaller.
            todo.append((half, kept, max(2 * bits, 2) if kept == changes else 1))
    return total


def placed(f, low, high):
    """A multiple of f(low + (high - low) t) with whole coefficients, low and high fractions."""
    lower = low[1] * high[1]
    start = low[0] * high[1]
    width = high[0] * low[1] - start
    n = len(f) - 1
    out = list(f)
    factor = 1
    for k in range(n, -1, -1):
        out[k] = out[k] * factor
        factor = factor * lower
    out = scaled(shifted(out, start), width)
    shared = content_of(out)
    return [c // shared for c in out]


def root_bound(f):
    """A power of 2 above the amounts of all roots of f, not 0."""
    top = max([abs(c) for c in f])
    return 1 << ((top // abs(f[-1])).bit_length() + 1)


def count_open(f, low, high):
    """How many roots f, not 0 and without double roots, has between two fractions, both left out."""
    bound = root_bound(f)
    if low[0] < -bound * low[1]:
        low = (-bound, 1)
    if high[0] > bound * high[1]:
        high = (bound, 1)
    if low[0] * high[1] >= high[0] * low[1]:
        return 0
    return count_inside(placed(f, low, high))
