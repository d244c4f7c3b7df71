"""Points of plain curves over a prime p, taken modulo l times all points there.

What is left of all points is a group of 1, l or l l members; a point is told there by a tuple of
digits modulo l, its logs, and a sum of multiples by the sum of the multiples of the logs.
"""

from pointsum.fields import added_over, count_over, curve_modulo, multiple_over, points_over
from pointsum.modpoly import all_roots
from pointsum.points import point_modulo
from pointsum.symbols import symbol


def double_logs(curve, p, places):
    """The logs of places modulo doubles: for a root e of the cubic whether x - e is a square, by [26] and [42]."""
    a, b, c = curve
    roots = all_roots((c, b, a, 1), p)
    # The third root, if there are three, tells what the others tell.
    rows = []
    for place in places:
        row = []
        for e in roots[:2]:
            if place == ():
                row.append(0)
            else:
                across = (place[0] - e) % p
                # At (e, 0) stands the product of both others.
                worth = across if across != 0 else e * (3 * e + 2 * a) + b
                row.append(0 if symbol(worth, p) == 1 else 1)
        rows.append(tuple(row))
    return rows


def end_logs(p, digits, l, ends):
    """The logs of points with l P zero, all of which are multiples of one of them."""
    others = [end for end in ends if end != ()]
    first = others[0] if others else ()
    table = {(): 0}
    place = first
    for k in range(1, l):
        if place == ():
            break
        table[place] = k
        place = added_over(p, digits, place, first)
    return [(table[end],) for end in ends]


def table_logs(p, digits, l):
    """A dict with the logs of all points, made class by class."""
    points = points_over(p, digits)
    layer = {multiple_over(p, digits, l, P): () for P in points}
    while len(layer) < len(points):
        first = [P for P in points if P not in layer][0]
        wider = {}
        shift = ()
        for k in range(l):
            for P in layer:
                wider[added_over(p, digits, P, shift)] = (*layer[P], k)
            shift = added_over(p, digits, shift, first)
        layer = wider
    return layer


def logs_over(curve, p, l, points, many):
    """The logs modulo l of points of a plain curve at an odd prime p of good reduction.

    many is the number of points there, or None if it is not known. Points killed by l make l l
    members only if l l divides it and l divides p - 1 (known, as the l-th roots of 1 come with them);
    otherwise multiplying by many over l leaves just the logs.
    """
    places = [point_modulo(curve, point, p) for point in points]
    if l == 2:
        return double_logs(curve, p, places)
    digits = curve_modulo(curve, p)
    if many is None:
        many = count_over(p, digits)
    if many % l != 0:
        return [() for _ in places]
    if many % (l * l) == 0 and (p - 1) % l == 0:
        table = table_logs(p, digits, l)
        return [table[place] for place in places]
    return end_logs(p, digits, l, [multiple_over(p, digits, many // l, place) for place in places])
