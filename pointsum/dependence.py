"""Points that are dependent: found by halving sums of them, until one of them is of finite order.

If the sum of ni Pi is of finite order, the ni not all even, then the sum of the Pi with odd ni and a
point of finite order is a double. Its half in the place of one of these Pi is a lower point, and the
points are as dependent as ahead.
"""

from pointsum.finite import order_of
from pointsum.points import added, halves, opposite
from pointsum.rows import leading_rows, rows_left
from pointsum.search import size_of

STEPS = 100
MOST_PRIME = 200
ENOUGH_BITS = 200
MOST_DOUBLINGS = 10


def weight_of(curve, point):
    """A whole number that grows about as the height of a point; 0 if it is of finite order."""
    if order_of(curve, point) is not None:
        return 0
    doublings = 0
    # Sizes tell heights up to a constant, so points are doubled until this hardly counts.
    while doublings < MOST_DOUBLINGS and size_of(point).bit_length() < ENOUGH_BITS:
        point = added(curve, point, point)
        doublings += 1
    return size_of(point).bit_length() << (2 * (MOST_DOUBLINGS - doublings))


def lowest_point(curve, points):
    """The first point of the least weight."""
    return min(points, key=lambda point: weight_of(curve, point))


def lower_sum(curve, points):
    """A low one of the sums of points, each with a sign."""
    place = points[0]
    for point in points[1:]:
        place = lowest_point(curve, [added(curve, place, point), added(curve, place, opposite(curve, point))])
    return place


def halved_points(curve, points, basis):
    """The points, one of them replaced by a half, if possible a lower one; None if no sum is seen to be a double.

    basis is that of the finite part modulo doubles.
    """
    rows = leading_rows(len(points), len(basis), 2)
    any_change = None
    for row in rows_left(curve, (*points, *basis), 2, rows, MOST_PRIME):
        taken = [at for at in range(len(points)) if row[at] == 1]
        top = max(taken, key=lambda at: weight_of(curve, points[at]))
        others = [point for at, point in enumerate((*points, *basis)) if row[at] == 1 and at != top]
        place = lower_sum(curve, [points[top], *others])
        # A sum of finite order stands for its own half.
        found = [place] if order_of(curve, place) is not None else list(halves(curve, place))
        if found:
            half = lowest_point(curve, found)
            change = [half if at == top else point for at, point in enumerate(points)]
            if weight_of(curve, half) < weight_of(curve, points[top]):
                return change
            any_change = any_change or change
    return any_change


def are_dependent(curve, points, basis):
    """Whether points are seen to be dependent; False if they are not, or this look does not tell."""
    points = list(points)
    for _ in range(STEPS):
        if any([order_of(curve, point) is not None for point in points]):
            return True
        points = halved_points(curve, points, basis)
        if points is None:
            return False
    return False
