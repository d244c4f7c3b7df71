"""The polynomials in the x of a point that tell its double and its threefold."""

from pointsum.curves import numbers_of
from pointsum.polynomials import times_of


def combined(k, f, m, g):
    """k f + m g for whole numbers k and m."""
    out = [k * c for c in f] + [0] * (len(g) - len(f))
    for at, c in enumerate(g):
        out[at] += m * c
    while out and out[-1] == 0:
        out.pop()
    return tuple(out)


def double_lower(curve):
    """f2, the square of 2 y + a1 x + a3: 0 where the double is zero, and else the lower part of its x."""
    b2, b4, b6, _, _, _, _ = numbers_of(curve)
    return (b6, 2 * b4, b2, 4)


def double_upper(curve):
    """g2, the upper part of the x of the double."""
    _, b4, b6, b8, _, _, _ = numbers_of(curve)
    return (-b8, -2 * b6, -b4, 0, 1)


def threefold_form(curve):
    """f3, which is 0 where the threefold is zero."""
    b2, b4, b6, b8, _, _, _ = numbers_of(curve)
    return (b8, 3 * b6, 3 * b4, b2, 3)


def fourfold_form(curve):
    """g4, which is 0 where the fourfold is zero, but not the double."""
    b2, b4, b6, b8, _, _, _ = numbers_of(curve)
    return (b4 * b8 - b6 * b6, b2 * b8 - b4 * b6, 10 * b8, 10 * b6, 5 * b4, b2, 2)


def halves_form(curve, x):
    """What is 0 at the x of all halves of a point with this x."""
    return combined(x[1], double_upper(curve), -x[0], double_lower(curve))


def thirds_form(curve, x):
    """What is 0 at the x of all thirds of a point with this x."""
    third = threefold_form(curve)
    square = times_of(third, third)
    upper = combined(1, (0,) + square, -1, times_of(double_lower(curve), fourfold_form(curve)))
    return combined(x[1], upper, -x[0], square)


def fivefold_form(curve):
    """What is 0 at the x of all points of order five."""
    two, three = double_lower(curve), threefold_form(curve)
    cube = times_of(three, times_of(three, three))
    return combined(1, times_of(times_of(two, two), fourfold_form(curve)), -1, cube)


def sevenfold_form(curve):
    """What is 0 at the x of all points of order seven."""
    two, three, four = double_lower(curve), threefold_form(curve), fourfold_form(curve)
    cube = times_of(three, times_of(three, three))
    other = times_of(four, times_of(four, four))
    return combined(1, times_of(fivefold_form(curve), cube), -1, times_of(times_of(two, two), other))
