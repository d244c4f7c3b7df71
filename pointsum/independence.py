"""Independent points of plain curves, shown by their classes modulo multiples over small fields."""

from pointsum.errors import BadNumber, TooGreat
from pointsum.fields import added_over, count_over, curve_modulo, multiple_over, points_over
from pointsum.finite import finite_basis, is_good_prime, order_of
from pointsum.points import point_modulo
from pointsum.whole import is_whole, power

MOST_PRIME = 1000
MOST_TUPLES = 3000
TRIED = (2, 3, 5, 7)
TRIED_PRIMES = 500


def all_tuples(many, l):
    """The list of all tuples of so many numbers from 0 to l - 1 that are not all 0, ascending."""
    rows = [()]
    for _ in range(many):
        rows = [(*row, n) for row in rows for n in range(l)]
    return [row for row in rows if any(row)]


def sum_over(p, curve, multiples, row):
    """The sum of the multiples that a row tells of points over p."""
    place = ()
    for table, n in zip(multiples, row):
        place = added_over(p, curve, place, table[n])
    return place


def multiples_over(p, curve, P, l):
    """The list of 0 P to (l - 1) P."""
    row = [()]
    for _ in range(l - 1):
        row.append(added_over(p, curve, row[-1], P))
    return row


def kept_at(curve, points, l, p, rows):
    """Those rows whose sums of multiples of the points are, modulo p, l times some point."""
    digits = curve_modulo(curve, p)
    # Otherwise every point is l times some point.
    if count_over(p, digits) % l != 0:
        return rows
    image = {multiple_over(p, digits, l, P) for P in points_over(p, digits)}
    multiples = [multiples_over(p, digits, point_modulo(curve, point, p), l) for point in points]
    left = []
    for row in rows:
        if sum_over(p, digits, multiples, row) in image:
            left.append(row)
    return left


def relations(curve, points, l, primes):
    """All relations of points modulo l at some primes, ascending."""
    for p in primes:
        if not is_whole(p) or p > MOST_PRIME or not is_good_prime(curve, p):
            raise BadNumber(p)
    if power(l, len(points)) > MOST_TUPLES:
        raise TooGreat("tuples")
    rows = all_tuples(len(points), l)
    for p in primes:
        rows = kept_at(curve, points, l, p, rows)
    return tuple(rows)


def basis_modulo(curve, l):
    """A basis of the finite part modulo l times it."""
    return tuple([point for point in finite_basis(curve) if order_of(curve, point) % l == 0])


def are_shown(curve, points, l, primes):
    """Whether the points, followed by basis_modulo, have no relation."""
    return relations(curve, (*points, *basis_modulo(curve, l)), l, primes) == ()


def needed_primes(curve, points, l):
    """A tuple of primes up to TRIED_PRIMES at which points have no relation modulo l; None if there is none."""
    rows = all_tuples(len(points), l)
    needed = []
    for p in range(3, TRIED_PRIMES + 1):
        if rows == []:
            break
        if is_good_prime(curve, p):
            left = kept_at(curve, points, l, p, rows)
            if len(left) < len(rows):
                needed.append(p)
            rows = left
    return tuple(needed) if rows == [] else None


def shown_by(curve, points):
    """A pair (l, primes) for which are_shown is True; None if there is none."""
    for l in TRIED:
        whole = (*points, *basis_modulo(curve, l))
        if power(l, len(whole)) <= MOST_TUPLES:
            primes = needed_primes(curve, whole, l)
            if primes is not None:
                return (l, primes)
    return None
