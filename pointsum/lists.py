"""Lists of a curve (a, b, 0): which classes points may have, which ones they have, and so the two numbers."""

from pointsum.errors import BadNumber
from pointsum.independence import basis_modulo
from pointsum.local import at_prime
from pointsum.points import added, opposite
from pointsum.primes import class_of, class_times, factors
from pointsum.quartics import at_reals, points_in
from pointsum.symbols import symbol
from pointsum.twomaps import back, beside, class_of_point, letters_of, parents, point_of_class
from pointsum.whole import is_whole

MOST = 200


def check_bound(curve, B):
    """Raises WrongForm() for a curve of another form, then BadNumber(B) for what is no bound."""
    letters_of(curve)
    if not is_whole(B) or B < 0 or B > MOST:
        raise BadNumber(B)


def told_primes(curve):
    """The primes at which the quartics of a curve are asked, ascending."""
    a, b = letters_of(curve)
    found = {2: True}
    for n in (b, a * a - 4 * b):
        for p, _ in factors(abs(n)):
            found[p] = True
    return sorted(found)


def divisor_classes(curve):
    """All whole numbers without square factors, of either sign, that divide b, ascending."""
    _, b = letters_of(curve)
    found = [1]
    for p, _ in factors(abs(b)):
        found = found + [p * d for d in found]
    return sorted(found + [-d for d in found])


def local_class(d, p):
    """What tells d, without square factors, up to squares at a prime p."""
    inside = d % p == 0
    unit = d // p if inside else d
    return (inside, unit % 8 if p == 2 else symbol(unit, p))


def barred_classes(curve):
    """A dict with the first place at which each class, that is not in the list, has no quartic."""
    a, b = letters_of(curve)
    classes = divisor_classes(curve)
    barred = {d: "reals" for d in classes if not at_reals((d, a, b // d))}
    for p in told_primes(curve):
        # Quartics of classes that are one up to squares at p are there together: M may be s M there.
        answers = {}
        left = [d for d in classes if d not in barred]
        for d in left:
            kind = local_class(d, p)
            if kind not in answers:
                answers[kind] = at_prime((d, a, b // d), p)
            if not answers[kind]:
                barred[d] = p
    return barred


def list_of(curve):
    """The list of a curve, ascending."""
    barred = barred_classes(curve)
    return tuple([d for d in divisor_classes(curve) if d not in barred])


def bars_of(curve):
    """(d, WHERE) for all classes that are not in the list, ascending by d."""
    barred = barred_classes(curve)
    return tuple([(d, barred[d]) for d in sorted(barred)])


def boxed_point(curve, d, B):
    """The point of a class d told by the least (M + e, M) in the box of B, B from 1 on; None if there is none."""
    a, b = letters_of(curve)
    rows = [(M + e, M, e, N) for M, e, N in points_in((d, a, b // d), B) if M > 0 and e > 0]
    if rows == []:
        return None
    _, M, e, N = min(rows)
    return point_of_class(curve, d, M, e, N)


def found_point(curve, d, B):
    """The found point of a member d of the list; None if no box tells one."""
    check_bound(curve, B)
    if B == 0 or d not in list_of(curve):
        return None
    return boxed_point(curve, d, B)


def found_rows(curve, members, B):
    """The list of the found classes, and that of found points whose classes make these with that of b."""
    _, b = letters_of(curve)
    own = class_of(b)
    classes = [1] if own == 1 else [1, own]
    points = []
    for d in sorted(members, key=abs):
        # A class that others make tells nothing new.
        if B > 0 and d not in classes:
            point = boxed_point(curve, d, B)
            if point is not None:
                points.append(point)
                classes = classes + [class_times(c, d) for c in classes]
    return (classes, points)


def found_classes(curve, B):
    """The found classes of a curve, ascending."""
    check_bound(curve, B)
    return tuple(sorted(found_rows(curve, list_of(curve), B)[0]))


def open_classes(curve, B):
    """The members of the list that are no found classes, ascending."""
    check_bound(curve, B)
    members = list_of(curve)
    found = found_rows(curve, members, B)[0]
    return tuple([d for d in members if d not in found])


def exponent_of(size):
    """The t of a size 2 ** t."""
    return size.bit_length() - 1


def rank_bounds(curve, B):
    """The two numbers between which the rank lies."""
    check_bound(curve, B)
    lower = upper = -2
    for side in (curve, beside(curve)):
        members = list_of(side)
        upper = upper + exponent_of(len(members))
        lower = lower + exponent_of(len(found_rows(side, members, B)[0]))
    return (max(lower, 0), upper)


def new_points(curve, known, points):
    """Those points that are, modulo doubles, no sums of known ones and of the points ahead of them.

    A point of the class 1 is back of a parent, and a double exactly if the parent's class is 1 or
    that of (0, 0).
    """
    other = beside(curve)
    own = class_of(other[1])
    behind = [1] if own == 1 else [1, own]
    by_class = {1: ()}
    fresh = []
    for at, point in enumerate((*known, *points)):
        c = class_of_point(curve, point)
        if c in by_class:
            rest = added(curve, point, opposite(curve, by_class[c]))
            k = class_of_point(other, parents(curve, rest)[0])
            if k in behind:
                continue
            behind = behind + [class_times(k, d) for d in behind]
        else:
            further = {class_times(c, d): added(curve, point, by_class[d]) for d in by_class}
            by_class = {**by_class, **further}
        if at >= len(known):
            fresh.append(point)
    return fresh


def found_points(curve, B):
    """As many independent points as the lower number tells: found points, or back of found points."""
    check_bound(curve, B)
    other = beside(curve)
    classes, points = found_rows(curve, list_of(curve), B)
    other_classes, others = found_rows(other, list_of(other), B)
    lower = max(exponent_of(len(classes)) + exponent_of(len(other_classes)) - 2, 0)
    points = points + [back(curve, point) for point in others]
    # What is new modulo doubles and points of finite order is independent: the odd ones of the
    # numbers of a sum of finite order would tell one of these points by others.
    return tuple(new_points(curve, basis_modulo(curve, 2), points)[:lower])
