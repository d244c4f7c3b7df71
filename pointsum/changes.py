"""Changes (u, r, s, t) of fractions, u not 0, that lead curves and points to others."""

from pointsum.curves import five, numbers_of
from pointsum.fractions import less, over, plus, product, root_of_fraction, times, total, whole_fraction
from pointsum.whole import lowest


def led(curve, change):
    """The five fractions to which a change leads a curve."""
    a1, a2, a3, a4, a6 = [whole_fraction(a) for a in five(curve)]
    u, r, s, t = change
    minus, two, three = (-1, 1), (2, 1), (3, 1)
    first = plus(a1, times(two, s))
    second = total([a2, product([minus, s, a1]), times(three, r), product([minus, s, s])])
    third = total([a3, times(r, a1), times(two, t)])
    fourth = total([
        a4,
        product([minus, s, a3]),
        product([two, r, a2]),
        product([minus, plus(t, times(r, s)), a1]),
        product([three, r, r]),
        product([(-2, 1), s, t]),
    ])
    sixth = total([
        a6,
        times(r, a4),
        product([r, r, a2]),
        product([r, r, r]),
        product([minus, t, a3]),
        product([minus, t, t]),
        product([minus, r, t, a1]),
    ])
    uu = times(u, u)
    uuu = times(uu, u)
    return (over(first, u), over(second, uu), over(third, uuu), over(fourth, times(uu, uu)),
            over(sixth, times(uuu, uuu)))


def whole_curve(fractions):
    """Five fractions as integers if all are whole; otherwise None."""
    if any([d != 1 for _, d in fractions]):
        return None
    return tuple([n for n, _ in fractions])


def then(change, other):
    """The change that does one change and then the other one."""
    u, r, s, t = change
    v, q, w, z = other
    uu = times(u, u)
    last = total([product([uu, u, z]), product([uu, s, q]), t])
    return (times(u, v), plus(times(uu, q), r), plus(times(u, w), s), last)


def back(change):
    """The change that leads back."""
    u, r, s, t = change
    one, minus = (1, 1), (-1, 1)
    uu = times(u, u)
    last = over(less(times(r, s), t), times(uu, u))
    return (over(one, u), times(minus, over(r, uu)), times(minus, over(s, u)), last)


def scale_between(curve, other):
    """The u above 0 with u ** 4 c4' = c4 and u ** 6 c6' = c6, c4' and c6' of the other curve; or None."""
    _, _, _, _, c4, c6, _ = numbers_of(curve)
    _, _, _, _, d4, d6, _ = numbers_of(other)
    if (c4 == 0) != (d4 == 0) or (c6 == 0) != (d6 == 0):
        return None
    if c4 == 0:
        return root_of_fraction(lowest(c6, d6), 6)
    if c6 == 0:
        return root_of_fraction(lowest(c4, d4), 4)
    u = root_of_fraction(lowest(c6 * d4, d6 * c4), 2)
    if u is None:
        return None
    n, d = u[0] * u[0], u[1] * u[1]
    # With u u so told, u ** 4 and u ** 6 fit both or none.
    return u if n * n * d4 == d * d * c4 else None


def change_with(curve, other, u):
    """The change with this u that leads a curve to an other one that is alike to it by u."""
    a1, a2, a3, _, _ = [whole_fraction(a) for a in five(curve)]
    d1, d2, d3, _, _ = [whole_fraction(a) for a in five(other)]
    uu = times(u, u)
    s = over(less(times(u, d1), a1), (2, 1))
    r = over(total([times(uu, d2), product([(-1, 1), a2]), times(s, a1), times(s, s)]), (3, 1))
    t = over(less(less(product([uu, u, d3]), a3), times(r, a1)), (2, 1))
    return (u, r, s, t)


def changes_between(curve, other):
    """The two changes that lead a curve to an other one, that with u above 0 first; or ()."""
    u = scale_between(curve, other)
    if u is None:
        return ()
    return (change_with(curve, other, u), change_with(curve, other, (-u[0], u[1])))


def are_alike(curve, other):
    """Whether a change leads the one curve to the other one."""
    return scale_between(curve, other) is not None


def led_point(point, change):
    """The point to which a change leads a point."""
    if point == ():
        return ()
    x, y = point
    u, r, s, t = change
    uu = times(u, u)
    across = less(x, r)
    return (over(across, uu), over(less(less(y, times(s, across)), t), times(uu, u)))
