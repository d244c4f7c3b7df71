"""The group of the points of a curve over a small field: orders, structure, bases, spans and logs."""

from math import gcd

from pointsum.fields import added_over, count_over, is_point_over, multiple_over, opposite_over, points_over
from pointsum.primes import factors
from pointsum.whole import root


def order_over(p, curve, P):
    """The order of a point: what is left of the number of all points, freed of primes as long as P stays killed."""
    order = count_over(p, curve)
    for q, _ in factors(order):
        while order % q == 0 and multiple_over(p, curve, order // q, P) == ():
            order //= q
    return order


def walk_over(p, curve, P):
    """The list of zero, P, 2 P and so on, up to the last one ahead of zero."""
    row = [()]
    place = P
    while place != ():
        row.append(place)
        place = added_over(p, curve, place, P)
    return row


def orders_over(p, curve):
    """A dict with the orders of all points."""
    orders = {}
    for P in points_over(p, curve):
        if P not in orders:
            row = walk_over(p, curve, P)
            for k, place in enumerate(row):
                orders[place] = len(row) // gcd(len(row), k)
    return orders


def with_order(p, curve, k):
    """The number of points with k P zero, k from 1 on."""
    orders = orders_over(p, curve)
    return len([P for P in orders if k % orders[P] == 0])


def structure_of(orders):
    """The structure of a group by the orders of all members.

    The greatest order is the last number. At most two numbers of a structure are divisible by one
    prime ([86]; for all primes known), so one number is left.
    """
    top = max(list(orders.values()))
    return tuple([n for n in (len(orders) // top, top) if n > 1])


def structure(p, curve):
    """The structure of a curve over p."""
    return structure_of(orders_over(p, curve))


def basis(p, curve):
    """A basis of a curve over p, in the order of its structure."""
    orders = orders_over(p, curve)
    told = structure_of(orders)
    if told == ():
        return ()
    last = [P for P in orders if orders[P] == told[-1]][0]
    if len(told) == 1:
        return (last,)
    row = {place: True for place in walk_over(p, curve, last)}
    return (apart_from(p, curve, orders, row, told[0]), last)


def apart_from(p, curve, orders, row, order):
    """A point of an order of which no multiple but zero is in a row, a group."""
    parts = [order // q for q, _ in factors(order)]
    for P in orders:
        if orders[P] == order and not any([multiple_over(p, curve, k, P) in row for k in parts]):
            return P
    return None


def is_basis(p, curve, value):
    """Whether a value, any one, is a basis of a curve over p."""
    if not isinstance(value, tuple) or not all([is_point_over(p, curve, P) for P in value]):
        return False
    orders = orders_over(p, curve)
    if tuple([orders[P] for P in value]) != structure_of(orders):
        return False
    return span_size(p, curve, value) == len(orders)


def span_size(p, curve, points):
    """The number of sums of multiples of some points."""
    span = {(): True}
    for P in points:
        layer = list(span)
        shift = P
        # Multiples of P make further classes of the span until one of them is in it.
        while shift not in span:
            for place in layer:
                span[added_over(p, curve, place, shift)] = True
            shift = added_over(p, curve, shift, P)
    return len(span)


def log_over(p, curve, P, Q):
    """The least k from 0 on with k P = Q; None if there is none."""
    step = root(2 * p + 1) + 1
    small = {}
    place = ()
    for k in range(step):
        if k == 0 or place != ():
            small[place] = k
            place = added_over(p, curve, place, P)
    # An order is at most 2 p + 1, so it is enough to go back by step P at most step times.
    back_step = opposite_over(p, curve, multiple_over(p, curve, step, P))
    for many in range(step + 1):
        if Q in small:
            return many * step + small[Q]
        Q = added_over(p, curve, Q, back_step)
    return None
