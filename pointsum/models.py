"""Reduced curves, curves told by c4 and c6, and least models."""

from pointsum.changes import change_with, led, whole_curve
from pointsum.curves import five, numbers_of
from pointsum.shortening import without_powers
from pointsum.whole import exact_root, power, valuation

# The six b2 of reduced curves; they are unlike modulo 12.
REDUCED_B2 = (0, 1, 4, 5, -4, -3)


def reduced(curve):
    """The reduced curve to which whole numbers r, s, t lead a curve, and the change."""
    a1, a2, a3, _, _ = five(curve)
    s = -(a1 // 2)
    r = -((a2 - s * a1 - s * s + 1) // 3)
    t = -((a3 + r * a1) // 2)
    change = ((1, 1), (r, 1), (s, 1), (t, 1))
    return (whole_curve(led(curve, change)), change)


def over_whole(n, d):
    """n over d if that is a whole number; otherwise None."""
    return n // d if n % d == 0 else None


def told_numbers(c4, c6):
    """(b2, b4, b6) of the reduced curve with c4 and c6; None if one of them is not whole."""
    for b2 in REDUCED_B2:
        if (b2 + c6) % 12 == 0:
            b4 = over_whole(b2 * b2 - c4, 24)
            if b4 is None:
                return None
            b6 = over_whole(36 * b2 * b4 - b2 * b2 * b2 - c6, 216)
            return None if b6 is None else (b2, b4, b6)
    return None


def curve_of(c4, c6):
    """The reduced curve with c4 and c6; None if there is none."""
    told = told_numbers(c4, c6)
    if told is None or c4 * c4 * c4 == c6 * c6:
        return None
    b2, b4, b6 = told
    a1, a3 = b2 % 2, b6 % 2
    a4, a6 = over_whole(b4 - a1 * a3, 2), over_whole(b6 - a3, 4)
    if a4 is None or a6 is None:
        return None
    return (a1, (b2 - a1) // 4, a3, a4, a6)


def greatest_scale(c4, c6):
    """The greatest u with u ** 4 dividing c4 and u ** 6 dividing c6, which are not both 0."""
    d4, d6 = without_powers(c4, c6)
    if c4 == 0:
        return exact_root(c6 // d6, 6)
    return exact_root(c4 // d4, 4)


def least_and_scale(curve):
    """The least model of a curve, and w."""
    _, _, _, _, c4, c6, _ = numbers_of(curve)
    most = greatest_scale(c4, c6)
    # Only 2 and 3 can keep a pair from being that of a curve; w is the greatest u that is let.
    twos, threes = valuation(most, 2), valuation(most, 3)
    for left_out in sorted([power(2, i) * power(3, j) for i in range(twos + 1) for j in range(threes + 1)]):
        u = most // left_out
        fourth = u * u * u * u
        least = curve_of(c4 // fourth, c6 // (fourth * u * u))
        if least is not None:
            return (least, u)


def least_model(curve):
    """The least model of a curve, and the change with u above 0 that leads to it."""
    least, w = least_and_scale(curve)
    return (least, change_with(curve, least, (w, 1)))


def is_least(curve):
    """Whether a curve is its own least model."""
    return least_and_scale(curve)[0] == five(curve)


def scale_of(curve):
    """The least common multiple w of all u that are let."""
    return least_and_scale(curve)[1]
