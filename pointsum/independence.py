"""Independent points of plain curves, shown by their classes modulo multiples over small fields."""

from pointsum.dependence import are_dependent
from pointsum.errors import BadNumber, TooGreat
from pointsum.fields import count_over, curve_modulo
from pointsum.finite import finite_basis, good_primes, is_good_prime, order_of
from pointsum.quotients import logs_over
from pointsum.rows import all_tuples, kept_rows
from pointsum.whole import is_whole, power

MOST_PRIME = 1000
MOST_TUPLES = 3000
TRIED = (2, 3, 5, 7)
TRIED_PRIMES = 500
# Points that are shown at all are mostly shown by primes up to this one.
FIRST_PRIMES = 60


def relations(curve, points, l, primes):
    """All relations of points modulo l at some primes, ascending."""
    for p in primes:
        if not is_whole(p) or p > MOST_PRIME or not is_good_prime(curve, p):
            raise BadNumber(p)
    if power(l, len(points)) > MOST_TUPLES:
        raise TooGreat("tuples")
    rows = all_tuples(len(points), l)
    for p in sorted(set(primes)):
        if rows != []:
            rows = kept_rows(rows, logs_over(curve, p, l, points, None), l)
    return tuple(rows)


def members_modulo(curve, basis, l):
    """Those points of a basis of the finite part whose order is a multiple of l."""
    return tuple([point for point in basis if order_of(curve, point) % l == 0])


def basis_modulo(curve, l):
    """A basis of the finite part modulo l times it."""
    return members_modulo(curve, finite_basis(curve), l)


def are_shown(curve, points, l, primes):
    """Whether the points, followed by basis_modulo, have no relation."""
    return relations(curve, (*points, *basis_modulo(curve, l)), l, primes) == ()


def counts_over(curve, most):
    """A dict with the number of points over each odd prime to most of good reduction."""
    return {p: count_over(p, curve_modulo(curve, p)) for p in good_primes(curve, most)}


def needed_primes(curve, points, l, most, counts):
    """A tuple of primes up to most at which points have no relation modulo l; None if there is none.

    counts has the numbers of points over the primes, if l is not 2.
    """
    rows = all_tuples(len(points), l)
    needed = []
    for p in range(3, most + 1, 2):
        if rows == []:
            break
        if is_good_prime(curve, p):
            left = kept_rows(rows, logs_over(curve, p, l, points, counts.get(p, None)), l)
            if len(left) < len(rows):
                needed.append(p)
            rows = left
    return tuple(needed) if rows == [] else None


def shown_by(curve, points):
    """A pair (l, primes) for which are_shown is True; None if there is none."""
    basis = finite_basis(curve)
    counts = {}
    for l in TRIED:
        whole = (*points, *members_modulo(curve, basis, l))
        if power(l, len(whole)) > MOST_TUPLES:
            continue
        if l > 2 and counts == {}:
            counts = counts_over(curve, TRIED_PRIMES)
        primes = needed_primes(curve, whole, l, FIRST_PRIMES, counts)
        if primes is None and l == 2 and are_dependent(curve, points, whole[len(points):]):
            # Dependent points have a relation at all primes.
            return None
        if primes is None:
            primes = needed_primes(curve, whole, l, TRIED_PRIMES, counts)
        if primes is not None:
            return (l, primes)
    return None
