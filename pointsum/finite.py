"""Points of finite order of plain curves."""

from math import gcd

from pointsum.curves import numbers_of
from pointsum.divisionpolys import fivefold_form, sevenfold_form
from pointsum.errors import BadNumber
from pointsum.fields import count_over, curve_modulo
from pointsum.points import added, ascending_points, halves, multiple, points_at, thirds
from pointsum.polynomials import whole_roots
from pointsum.splitting import has_no_parts
from pointsum.whole import is_whole

MOST = 10000
# How many points of finite order a curve may have (known). This tells only that counting ends;
# that the points found are all hangs on the counts.
SIZES = (1, 2, 3, 4, 5, 6, 7, 8, 9, 10, 12, 16)


def may_be_finite(curve, point):
    """Whether a point other than zero has whole letters x, y with y = 0 or y y dividing the discriminant."""
    (_, d), (y, f) = point
    return d == 1 and f == 1 and (y == 0 or numbers_of(curve)[6] // 16 % (y * y) == 0)


def order_of(curve, point):
    """The order of a point; None if it has none."""
    many = 1
    place = point
    # Multiples of a point of no finite order are unlike, and few points may be finite.
    while place != ():
        if not may_be_finite(curve, place):
            return None
        place = added(curve, place, point)
        many += 1
    return many


def is_good_prime(curve, p):
    """Whether p is an odd prime that does not divide the discriminant."""
    return p > 2 and has_no_parts(p) and numbers_of(curve)[6] % p != 0


def good_primes(curve, most):
    """The list of all odd primes to most that do not divide the discriminant, ascending."""
    return [p for p in range(3, most + 1, 2) if is_good_prime(curve, p)]


def count_bound(curve, primes):
    """The greatest common divisor of the numbers of points over some odd primes."""
    for p in primes:
        if not is_whole(p) or p > MOST or not is_good_prime(curve, p):
            raise BadNumber(p)
    shared = 0
    for p in primes:
        shared = gcd(shared, count_over(p, curve_modulo(curve, p)))
    return shared


def size_limit(curve):
    """One of SIZES that the number of members of the finite part divides."""
    shared = 0
    p = 3
    while shared not in SIZES:
        if is_good_prime(curve, p):
            shared = gcd(shared, count_over(p, curve_modulo(curve, p)))
        p += 2
    return shared


def grown(curve, parts_of_one):
    """The list of zero, its parts (all halves, or all thirds), the parts of these, and so on."""
    found = [()]
    todo = [()]
    seen = set()
    seen.add(())
    while todo:
        point = todo.pop()
        for part in parts_of_one(curve, point):
            if part not in seen:
                seen.add(part)
                found.append(part)
                todo.append(part)
    return found


def points_over_whole(curve, form):
    """The list of zero and the points whose x is a whole root of a polynomial."""
    return [(), *[point for x in whole_roots(form) for point in points_at(curve, (x, 1))]]


def members(curve):
    """The list of all points of finite order: the sums of those of orders that are powers of one prime."""
    limit = size_limit(curve)
    groups = []
    if limit % 2 == 0:
        groups.append(grown(curve, halves))
    if limit % 3 == 0:
        groups.append(grown(curve, thirds))
    # The limit has no factor 25 or 49, as it is one of SIZES.
    if limit % 5 == 0:
        groups.append(points_over_whole(curve, fivefold_form(curve)))
    if limit % 7 == 0:
        groups.append(points_over_whole(curve, sevenfold_form(curve)))
    found = [()]
    for group in groups:
        found = [added(curve, point, other) for point in found for other in group]
    return found


def finite_part(curve):
    """The members of the finite part, ascending."""
    return ((), *ascending_points([point for point in members(curve) if point != ()]))


def form_of(part):
    """(n1, n2) of a finite part."""
    ends = [point for point in part if point == () or point[1] == (0, 1)]
    n1 = 2 if len(ends) == 4 else 1
    return (n1, len(part) // n1)


def finite_form(curve):
    """(n1, n2) such that the finite part is of this form."""
    return form_of(finite_part(curve))


def finite_basis(curve):
    """(P, Q), of the orders n1 and n2, whose multiples added make each member of the finite part once."""
    part = finite_part(curve)
    n1, n2 = form_of(part)
    second = [point for point in part if order_of(curve, point) == n2][0]
    if n1 == 1:
        return ((), second)
    middle = multiple(curve, n2 // 2, second)
    first = [point for point in part if point != () and point[1] == (0, 1) and point != middle][0]
    return (first, second)
