"""Whole groups of points: an index bound, all points by a basis, and points as sums."""

from math import isqrt

from pointsum.errors import TooGreat
from pointsum.fields import curve_modulo, opposite_over
from pointsum.finite import finite_basis, is_good_prime, order_of
from pointsum.fractions import over, product
from pointsum.heights import determinant_bounds, endless_points, least_in
from pointsum.independence import TRIED, TRIED_PRIMES, members_modulo
from pointsum.lists import rank_bounds
from pointsum.modular import inverse_mod
from pointsum.points import added, point_modulo
from pointsum.quotients import logs_over
from pointsum.saturation import saturated
from pointsum.search import box_of
from pointsum.sums import great_prime, sum_of_multiples, sum_over, tried_rows
from pointsum.twomaps import letters_of

SATURATED = (2, 3, 5, 7, 11, 13, 17, 19)
# Above this index bound stands a prime at which nothing is saturated.
MOST_INDEX = 22
LIST_BOUND = 200
MOST_RANK = 3
MOST_TIMES = 60


def index_bound(curve, points, mu, n):
    """The greatest index that independent points may have, if no height is below the fraction mu above 0."""
    many = len(points)
    high = determinant_bounds(curve, points, n)[1]
    least = product([(3, 4)] * (many * (many - 1) // 2) + [mu] * many)
    upper, lower = over(high, least)
    return max(isqrt(upper // lower), 1)


def all_logs(curve, points, l):
    """A list of rows: the logs modulo l of each point at all told primes."""
    rows = [[] for _ in points]
    for p in range(3, TRIED_PRIMES + 1, 2):
        if is_good_prime(curve, p):
            rows = [[*row, *logs] for row, logs in zip(rows, logs_over(curve, p, l, points, None))]
    return rows


def freed_row(row, pivots, l):
    """A row less the multiples of the rows of pivots that make it 0 at their places, modulo l."""
    for at, other in pivots:
        n = row[at]
        row = [(x - n * y) % l for x, y in zip(row, other)]
    return row


def pivot_of(row, l):
    """The pivot (at, row) of a row that is not 0 throughout: its multiple with 1 at its first place that is not 0."""
    at = [k for k in range(len(row)) if row[k] != 0][0]
    turn = inverse_mod(row[at], l)
    return (at, [turn * x % l for x in row])


def apart_points(curve, members, points, many, l):
    """The first so many points that, with members of the finite part, have no relation modulo l; or None."""
    pivots = []
    taken = []
    for at, row in enumerate(all_logs(curve, (*members, *points), l)):
        rest = freed_row(row, pivots, l)
        if any(rest):
            pivots.append(pivot_of(rest, l))
            if at >= len(members):
                taken.append(points[at - len(members)])
        elif at < len(members):
            return None
        if len(taken) == many:
            return tuple(taken)
    return None


def shown_points(curve, basis, points, rank):
    """So many of some points that have no relation modulo one of TRIED at the told primes; or None."""
    for l in TRIED:
        taken = apart_points(curve, members_modulo(curve, basis, l), points, rank, l)
        if taken is not None:
            return taken
    return None


def whole_group(curve, rank, B, n):
    """(S, S', points) that make all points, if the rank is as told; None if this is not reached."""
    basis = finite_basis(curve)
    if rank == 0:
        return (*basis, ())
    points = endless_points(curve, box_of(curve, B))
    mu = least_in(curve, points, B, n)
    taken = shown_points(curve, basis, points, rank) if mu[0] > 0 else None
    if taken is None:
        return None
    bound = index_bound(curve, taken, mu, n)
    if bound > MOST_INDEX:
        return None
    try:
        for l in SATURATED:
            if l <= bound:
                taken = saturated(curve, taken, l)
    except TooGreat:
        return None
    return (*basis, taken)


def whole_points(curve, B, n):
    """whole_group of a curve (a, b, 0) whose rank the two numbers tell, if it is at most 3; otherwise None."""
    letters_of(curve)
    lower, upper = rank_bounds(curve, min(B, LIST_BOUND))
    if lower != upper or upper > MOST_RANK:
        return None
    return whole_group(curve, upper, B, n)


def finite_sums(curve, first, second):
    """The list of (i, j, i times the first one and j times the second one) for all i and j below their orders."""
    rows = []
    across = ()
    for i in range(order_of(curve, first)):
        place = across
        for j in range(order_of(curve, second)):
            rows.append((i, j, place))
            place = added(curve, place, second)
        across = added(curve, across, first)
    return rows


def as_sum(curve, basis, point):
    """(i, j, (n1, ..)): the sum of multiples of the members of a basis, told by whole_group, that a point is.

    The last number is looked up, the others are tried, all modulo a great prime.
    """
    first, second, points = basis
    p = great_prime(curve)
    over_p = curve_modulo(curve, p)
    places = [point_modulo(curve, member, p) for member in points]
    last = tried_rows(p, over_p, places[-1:], MOST_TIMES)
    table = {}
    for i, j, end in finite_sums(curve, first, second):
        end_place = point_modulo(curve, end, p)
        for numbers, parts in last:
            table[sum_over(p, over_p, end_place, parts)] = (i, j, numbers)
    target = point_modulo(curve, point, p)
    opposites = [opposite_over(p, over_p, place) for place in places[:-1]]
    for numbers, parts in tried_rows(p, over_p, opposites, MOST_TIMES):
        place = sum_over(p, over_p, target, parts)
        if place in table:
            i, j, behind = table[place]
            told = (*numbers, *behind)
            if sum_of_multiples(curve, (i, j, *told), (first, second, *points)) == point:
                return (i, j, told)
    return None
