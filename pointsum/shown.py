"""Questions, their answers, and certificates for these."""

from pointsum.changes import are_alike, changes_between, led
from pointsum.curves import five
from pointsum.errors import BadNumber, Open, TooGreat
from pointsum.fields import curve_modulo
from pointsum.finite import finite_part, good_primes, order_of
from pointsum.fractions import is_fraction, whole_fraction
from pointsum.independence import MOST_PRIME, MOST_TUPLES, are_shown, shown_by
from pointsum.listbars import bars_told, rank_told
from pointsum.lists import found_points, rank_bounds
from pointsum.local import at_prime, bars_at, is_bars, is_witness, witness_at
from pointsum.points import added, is_point, multiple, point_modulo
from pointsum.primes import is_prime, is_shown, shown
from pointsum.sums import great_prime, sum_of_multiples, sum_over, tried_rows
from pointsum.twomaps import beside
from pointsum.whole import is_tuple, is_whole

MOST_TIMES = 60
TRIED_TIMES = 6
LIST_BOUND = 100
MOST_POINTS = 3


def answer_to(question):
    """The answer to a question: True or False; raises Open() if none is found."""
    word, told = question[0], question[1:]
    if word == "finite":
        return order_of(*told) is not None
    if word == "independent":
        return independence(*told)[0]
    if word == "rank at most":
        return rank_points(*told) is None
    if word == "at":
        return at_prime(*told)
    if word == "alike":
        return are_alike(*told)
    return is_prime(*told)


def certified(question):
    """The answer to a question and a certificate for it; raises Open() if none is found."""
    word, told = question[0], question[1:]
    if word == "finite":
        return finiteness(*told)
    if word == "independent":
        return independence(*told)
    if word == "rank at most":
        return rank_limit(*told)
    if word == "at":
        witness = witness_at(*told)
        return (False, bars_at(*told)) if witness is None else (True, witness)
    if word == "alike":
        found = changes_between(*told)
        return (False, ()) if found == () else (True, found[0])
    return (is_prime(*told), shown(*told))


def has_parts(point):
    """Whether a point has a letter that is no integer."""
    return point != () and (point[0][1] > 1 or point[1][1] > 1)


def finiteness(curve, point):
    """Whether a point is of finite order, with a certificate."""
    order = order_of(curve, point)
    if order is not None:
        return (True, ("order", order))
    place = point
    for n in range(1, MOST_TIMES + 1):
        if has_parts(place):
            return (False, ("parts", n))
        place = added(curve, place, point)
    raise Open()


def finite_sum(curve, points):
    """(NS, n): numbers of amounts to TRIED_TIMES, not all 0, and the order n of the sum; None if there are none."""
    p = great_prime(curve)
    over_p = curve_modulo(curve, p)
    # Points of finite order stay unlike modulo p, so a sum of finite order is not overlooked.
    ends = {point_modulo(curve, end, p): True for end in finite_part(curve)}
    places = [point_modulo(curve, point, p) for point in points]
    for numbers, parts in tried_rows(p, over_p, places, TRIED_TIMES):
        if any(numbers) and sum_over(p, over_p, (), parts) in ends:
            order = order_of(curve, sum_of_multiples(curve, numbers, points))
            if order is not None:
                return (numbers, order)
    return None


def independence(curve, points):
    """Whether points are independent, with a certificate; raises Open() if neither is found."""
    found = shown_by(curve, points)
    if found is not None:
        return (True, found)
    told = finite_sum(curve, points)
    if told is None:
        raise Open()
    return (False, ("sum", *told))


def rank_points(curve, n):
    """None if the lists show that the rank is at most n, otherwise n + 1 independent points; raises Open() without."""
    if n >= rank_bounds(curve, 0)[1]:
        return None
    points = found_points(curve, LIST_BOUND) if n < MOST_POINTS else ()
    if len(points) <= n:
        raise Open()
    return points[:n + 1]


def rank_limit(curve, n):
    """Whether the rank is at most n, with a certificate; raises Open() if neither is found."""
    points = rank_points(curve, n)
    if points is None:
        return (True, (bars_told(curve), bars_told(beside(curve))))
    found = shown_by(curve, points)
    # Found points are unlike modulo doubles and points of finite order, so some primes show it for 2.
    l, primes = found if found is not None else (2, tuple(good_primes(curve, MOST_PRIME)))
    return (False, (points, l, primes))


def is_certified(question, answer, certificate):
    """Whether a certificate, any value, is one for this answer to a question."""
    word, told = question[0], question[1:]
    if word == "finite":
        return is_order(*told, certificate) if answer else is_endless(*told, certificate)
    if word == "independent":
        return is_independence(*told, certificate) if answer else is_dependence(*told, certificate)
    if word == "rank at most":
        return is_rank_limit(*told, certificate) if answer else is_rank_excess(*told, certificate)
    if word == "at":
        return is_witness(*told, certificate) if answer else is_bars(*told, certificate)
    if word == "alike":
        if answer:
            return is_change_between(*told, certificate)
        return certificate == () and not are_alike(*told)
    return is_shown(*told, certificate) == ("prime" if answer else "not")


def is_order(curve, point, value):
    """Whether a value is ("order", n) with the order n of a point."""
    return is_tuple(value, 2) and value[0] == "order" and is_whole(value[1]) and value[1] == order_of(curve, point)


def is_endless(curve, point, value):
    """Whether a value is ("parts", n), n times a point having a letter that is no integer."""
    if not is_tuple(value, 2) or value[0] != "parts" or not is_whole(value[1]):
        return False
    return 1 <= value[1] <= MOST_TIMES and has_parts(multiple(curve, value[1], point))


def is_independence(curve, points, value):
    """Whether a value is (l, PRIMES) that shows that points, one or more, are independent."""
    if not is_tuple(value, 2):
        return False
    l, primes = value
    # Above this l there are too many tuples.
    if not is_whole(l) or l > MOST_TUPLES or not is_prime(l) or not isinstance(primes, tuple):
        return False
    try:
        return are_shown(curve, points, l, primes)
    except BadNumber:
        return False
    except TooGreat:
        return False


def is_dependence(curve, points, value):
    """Whether a value is ("sum", NS, n): not all of NS are 0, and the sum that they tell has the order n."""
    if not is_tuple(value, 3) or value[0] != "sum" or not is_tuple(value[1], len(points)) or not is_whole(value[2]):
        return False
    numbers = value[1]
    if not all([is_whole(n) and abs(n) <= MOST_TIMES for n in numbers]) or not any(numbers):
        return False
    place = ()
    for n, point in zip(numbers, points):
        place = added(curve, place, multiple(curve, n, point))
    return value[2] == order_of(curve, place)


def is_rank_limit(curve, n, value):
    """Whether a value is (BARS, BARS') that shows that the rank is at most n."""
    told = rank_told(curve, value)
    return told is not None and told <= n


def is_rank_excess(curve, n, value):
    """Whether a value is (POINTS, l, PRIMES), n + 1 points, at most three, that are shown to be independent so."""
    if n >= MOST_POINTS or not is_tuple(value, 3) or not is_tuple(value[0], n + 1):
        return False
    points = value[0]
    return all([is_point(curve, point) for point in points]) and is_independence(curve, points, value[1:])


def is_change_between(curve, other, value):
    """Whether a value is a change that leads a curve to an other one."""
    if not is_tuple(value, 4) or not all([is_fraction(part) for part in value]) or value[0] == (0, 1):
        return False
    return led(curve, value) == tuple([whole_fraction(a) for a in five(other)])
