"""Bars of a curve: what shows for classes that they are not in its list."""

from pointsum.lists import bars_of, divisor_classes, told_primes
from pointsum.local import bars_at, is_bars
from pointsum.quartics import at_reals
from pointsum.twomaps import beside, quartic_of
from pointsum.whole import is_tuple, is_whole


def bars_told(curve):
    """The tuple of pairs (d, WHY) for all classes that are not in the list, ascending."""
    rows = []
    for d, where in bars_of(curve):
        why = ("reals",) if where == "reals" else (where, bars_at(quartic_of(curve, d), where))
        rows.append((d, why))
    return tuple(rows)


def is_reason(quartic, value, primes):
    """Whether a value, any one, shows that a quartic is not at the reals or not at one of some primes."""
    if value == ("reals",):
        return not at_reals(quartic)
    if not is_tuple(value, 2) or not is_whole(value[0]) or value[0] not in primes:
        return False
    return is_bars(quartic, value[0], value[1])


def classes_left(curve, value):
    """How many classes a value, any one, leaves if it is BARS of a curve; None if it is none."""
    if not isinstance(value, tuple):
        return None
    classes = divisor_classes(curve)
    # At all other primes each quartic of the curve is (known), so there are no bars.
    primes = told_primes(curve)
    ahead = classes[0] - 1
    for row in value:
        if not is_tuple(row, 2) or not is_whole(row[0]) or row[0] <= ahead or row[0] not in classes:
            return None
        if not is_reason(quartic_of(curve, row[0]), row[1], primes):
            return None
        ahead = row[0]
    return len(classes) - len(value)


def rank_told(curve, value):
    """The number t + t' - 2 that a value, any one, tells as (BARS, BARS'); None if it is none."""
    if not is_tuple(value, 2):
        return None
    own, other = classes_left(curve, value[0]), classes_left(beside(curve), value[1])
    if own is None or other is None:
        return None
    return own.bit_length() + other.bit_length() - 4
