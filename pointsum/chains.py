"""Walks modulo n, counts of points, and chains of curve steps that show primes."""

from pointsum.certificates import SMALL, is_step
from pointsum.fields import count_over, digits_of
from pointsum.primes import factors, shown, small_factors
from pointsum.splitting import has_no_parts
from pointsum.symbols import root_mod
from pointsum.walks import walk
from pointsum.whole import root

# How many curves are tried for one count: a sixth of those with a = 0, or more, have it.
CURVES = 60
# Up to this prime further curves are counted one by one.
COUNTED = 2000
COUNTED_LETTERS = 12


def times_mod(n, curve, point, k):
    """k times a point modulo n: ("point", P), or ("broken", d) where the walk breaks first."""
    return walk(n, curve[0], point, k)


def count_of(p, curve):
    """The number of points of the curve (a, b) over a prime p from 5 on."""
    a, b = curve
    return count_over(p, digits_of((0, 0, 0, a, b), p))


def form_letters(n, k):
    """(u, v) with u u + k v v = n, for a prime n that - k has a root modulo: by Euclid's divisions of that root."""
    high, low = n, root_mod(-k, n)
    while low * low > n:
        high, low = low, high % low
    return (low, root((n - low * low) // k))


def counts_told(n):
    """The list of (kind, N): for a = 0 ("b" is free) and b = 0 ("a" is free) the counts that curves over n have."""
    if n % 4 == 1:
        s, t = form_letters(n, 1)
        found = [("a", n + 1 + m) for m in (2 * s, -2 * s, 2 * t, -2 * t)]
    else:
        # As - 1 is no square, x and - x have two points together.
        found = [("a", n + 1)]
    if n % 3 == 1:
        u, v = form_letters(n, 3)
        found.extend([("b", n + 1 + m) for k in (2 * u, u + 3 * v, u - 3 * v) for m in (k, -k)])
    else:
        # Each digit is one cube.
        found.append(("b", n + 1))
    return found


def great_factor(many, is_cheap):
    """The greatest prime factor of a count; if it has to be cheap, 1 unless only small ones stand beside it."""
    if not is_cheap:
        return factors(many)[-1][0]
    found, rest = small_factors(many)
    if rest == 1:
        return found[-1]
    return rest if has_no_parts(rest) else 1


def point_on(n, a, b):
    """The first point (x, y) of y y = x x x + a x + b over a prime n, x from 1 on, y not 0; None if none comes soon."""
    for x in range(1, 60):
        y = root_mod(x * x * x + a * x + b, n)
        if y is not None and y != 0:
            return (x, y)
    return None


def step_on(n, curve, many, q):
    """The step ("curve", curve, P, c, q) with c q points, if it is right; otherwise None."""
    point = point_on(n, curve[0], curve[1])
    if point is None:
        return None
    step = ("curve", curve, point, many // q, q)
    return step if is_step(n, (*step, ())) else None


def told_step(n, most, is_cheap):
    """A right step for a prime n by counts that are told, with q at most most, or None."""
    rows = []
    for kind, many in counts_told(n):
        q = great_factor(many, is_cheap)
        if (q - 1) * (q - 1) > 4 * n and q <= most:
            rows.append((q, kind, many))
    for q, kind, many in sorted(rows):
        for k in range(1, min(CURVES, n)):
            step = step_on(n, (k, 0) if kind == "a" else (0, k), many, q)
            if step is not None:
                return step
    return None


def counted_step(n):
    """A right step for a small prime n, curves being counted one by one, or None."""
    letters = range(min(n, COUNTED_LETTERS))
    for a in letters:
        for b in letters:
            many = count_of(n, (a, b)) if (4 * a * a * a + 27 * b * b) % n != 0 else 1
            step = step_on(n, (a, b), many, factors(many)[-1][0]) if many > 1 else None
            if step is not None:
                return step
    return None


def step_for(n, most):
    """A right step for a prime n from 5 on, but for CERT, with q at most most, or None."""
    step = told_step(n, most, True)
    if step is None:
        step = told_step(n, most, False)
    if step is None and n < COUNTED:
        step = counted_step(n)
    return step


def chain(n):
    """A right certificate for a prime n, from 5 on, whose first step is a curve step; None if none is found."""
    steps = []
    step = step_for(n, 2 * n + 1)
    while step is not None:
        steps.append(step)
        n = step[4]
        # Each further step has to lead down.
        step = step_for(n, n // 2) if n >= SMALL else None
    if steps == []:
        return None
    cert = shown(n)
    for step in reversed(steps):
        cert = (*step, cert)
    return cert


def length_of(certificate):
    """The number of curve steps of a certificate from the first one on."""
    many = 0
    while certificate[0] == "curve":
        certificate = certificate[5]
        many += 1
    return many
