import random
import unittest
from math import gcd, isqrt

from pointsum.curves import is_plain
from pointsum.errors import BadNumber, WrongForm
from pointsum.finite import finite_form, order_of
from pointsum.independence import shown_by
from pointsum.lists import (
    bars_of, found_classes, found_point, found_points, list_of, open_classes, rank_bounds,
)
from pointsum.local import at_prime
from pointsum.points import is_point
from pointsum.primes import class_of, class_times
from pointsum.quartics import at_reals
from pointsum.search import box_of
from pointsum.twomaps import back, beside, class_of_point
from tests.right_values import is_prime_slowly

# b a square and none, a a - 4 b a square and none, ranks 0 to 3.
CURVES = (
    (0, -1, 0), (0, 4, 0), (0, -25, 0), (0, 17, 0), (0, -68, 0), (0, -82, 0), (0, -1156, 0), (5, 4, 0), (-5, 4, 0), (3, 9, 0),
    (1, 16, 0), (10, 9, 0), (-4, -5, 0), (7, 1, 0), (0, 1, 0), (0, 2, 0), (-1, -12, 0), (6, 25, 0), (0, -36, 0), (-226, 11025, 0),
)
WRONG_BOUNDS = (-1, 201, 10 ** 30, True, False, None, "5", 5.0, (5,), [5])


def some_curve(rng, most):
    while True:
        curve = (rng.randint(-most, most), rng.randint(-most, most), 0)
        if is_plain(curve):
            return curve


def classes_slowly(b):
    """All numbers without square factors that divide b, by trying all of them."""
    found = [d for d in range(1, abs(b) + 1) if b % d == 0 and all(d % (k * k) for k in range(2, isqrt(d) + 1))]
    return sorted(found + [-d for d in found])


def primes_slowly(n):
    return [p for p in range(2, abs(n) + 1) if n % p == 0 and is_prime_slowly(p)]


def where_slowly(curve, d):
    """The first place at which the quartic of d is not, or None."""
    a, b, _ = curve
    quartic = (d, a, b // d)
    if not at_reals(quartic):
        return "reals"
    for p in sorted({2, *primes_slowly(b), *primes_slowly(a * a - 4 * b)}):
        if not at_prime(quartic, p):
            return p
    return None


def boxed_slowly(curve, d, B):
    """The found point of d, by trying all M and e."""
    a, b, _ = curve
    for total in range(2, 2 * B + 1):
        for M in range(max(1, total - B), min(B, total - 1) + 1):
            e = total - M
            value = d * M ** 4 + a * M * M * e * e + b // d * e ** 4
            if gcd(M, e) == 1 and value >= 0 and isqrt(value) ** 2 == value:
                return (pair_of(d * M * M, e * e), pair_of(d * M * isqrt(value), e ** 3))
    return None


def pair_of(n, d):
    shared = gcd(n, d)
    return (n // shared, d // shared)


def found_slowly(curve, B):
    """The found classes by the words of the document."""
    found = {1, class_of(curve[1])}
    found |= {d for d in list_of(curve) if boxed_slowly(curve, d, B)}
    while True:
        more = {class_times(c, d) for c in found for d in found}
        if more == found:
            return tuple(sorted(found))
        found = more


class ListTest(unittest.TestCase):
    def test_examples(self):
        self.assertEqual(list_of((0, -1, 0)), (-1, 1))
        self.assertEqual(list_of((0, 4, 0)), (1, 2))
        self.assertEqual(list_of((0, -68, 0)), (-34, -17, -2, -1, 1, 2, 17, 34))
        self.assertEqual(list_of((0, 17, 0)), (1, 17))
        self.assertEqual(bars_of((0, 17, 0)), ((-17, "reals"), (-1, "reals")))
        self.assertEqual(bars_of((0, 4, 0)), ((-2, "reals"), (-1, "reals")))
        self.assertEqual(bars_of((0, -1, 0)), ())

    def test_against_every_quartic(self):
        rng = random.Random(1)
        curves = list(CURVES) + [some_curve(rng, most) for most in (15, 60, 300) for _ in range(25)]
        curves += [beside(some_curve(rng, 20)) for _ in range(15)]
        words = set()
        for curve in curves:
            told = {d: where_slowly(curve, d) for d in classes_slowly(curve[1])}
            right = tuple((d, where) for d, where in told.items() if where is not None)
            self.assertEqual(list_of(curve), tuple(d for d in told if told[d] is None), curve)
            self.assertEqual(bars_of(curve), right, curve)
            words.update(where for _, where in right)
        self.assertTrue({"reals", 2, 3, 5} <= words)

    def test_is_a_group(self):
        rng = random.Random(2)
        for curve in list(CURVES) + [some_curve(rng, 10000) for _ in range(60)]:
            for side in (curve, beside(curve)):
                members = list_of(side)
                self.assertEqual(members, tuple(sorted(members)))
                self.assertEqual(len(members) & (len(members) - 1), 0)
                self.assertTrue({1, class_of(side[1])} <= set(members))
                self.assertTrue({class_times(c, d) for c in members for d in members[:6]} <= set(members))

    def test_holds_the_classes_of_points(self):
        rng = random.Random(3)
        for curve in list(CURVES) + [some_curve(rng, 40) for _ in range(40)]:
            members = list_of(curve)
            for point in box_of(curve, 200):
                self.assertIn(class_of_point(curve, point), members)

    def test_great_primes(self):
        # a a - 4 b and b beside are great.
        for curve in ((9999, -9973, 0), (1, 9973, 0), (-10000, 9999, 0)):
            members = list_of(beside(curve))
            self.assertTrue(class_of(beside(curve)[1]) in members and 1 in members)
            self.assertEqual(sorted(members + tuple(d for d, _ in bars_of(beside(curve)))), classes_of_factors(beside(curve)[1]))


def classes_of_factors(b):
    """All numbers without square factors that divide b, for greater b."""
    found = [1]
    rest = abs(b)
    p = 2
    while p * p <= rest:
        if rest % p == 0:
            found += [p * d for d in found]
            while rest % p == 0:
                rest //= p
        p += 1
    if rest > 1:
        found += [rest * d for d in found]
    return sorted(found + [-d for d in found])


class FoundTest(unittest.TestCase):
    def test_by_the_words(self):
        rng = random.Random(4)
        opened = 0
        curves = list(CURVES) + [some_curve(rng, 30) for _ in range(30)] + [beside(some_curve(rng, 20)) for _ in range(10)]
        for curve in curves:
            for B in (0, 1, 2, 9):
                found = found_slowly(curve, B)
                self.assertEqual(found_classes(curve, B), found, (curve, B))
                left = tuple(d for d in list_of(curve) if d not in found)
                self.assertEqual(open_classes(curve, B), left)
                opened += len(left)
        self.assertGreater(opened, 20)

    def test_nothing_is_found_in_no_box(self):
        for curve in CURVES:
            self.assertEqual(found_classes(curve, 0), tuple(sorted({1, class_of(curve[1])})))
            for d in list_of(curve):
                self.assertIsNone(found_point(curve, d, 0))

    def test_found_points(self):
        rng = random.Random(5)
        told = 0
        for curve in list(CURVES) + [some_curve(rng, 30) for _ in range(30)]:
            for B in (1, 7, 15):
                for d in list_of(curve):
                    point = found_point(curve, d, B)
                    self.assertEqual(point, boxed_slowly(curve, d, B), (curve, d, B))
                    if point is not None:
                        told += 1
                        self.assertTrue(is_point(curve, point))
                        self.assertEqual(class_of_point(curve, point), d)
        self.assertGreater(told, 100)

    def test_least_of_a_box(self):
        # 1 * 1 + 0 + 8 * 1 = 9: M = e = 1 for d = 1, x = 1.
        self.assertEqual(found_point((0, 8, 0), 1, 5), ((1, 1), (3, 1)))
        # (12, 36) is the point of (3, 4, 5).
        self.assertEqual(found_point((0, -36, 0), 3, 200), ((12, 1), (36, 1)))
        # N may be 0.
        self.assertEqual(found_point((-5, 4, 0), 1, 3), ((1, 1), (0, 1)))

    def test_open_classes_of_17(self):
        for B in (0, 1, 30, 200):
            self.assertEqual(open_classes((0, 17, 0), B), ())
            self.assertEqual(open_classes((0, -68, 0), B), (-34, -2, -1, 2, 17, 34))
            self.assertEqual(rank_bounds((0, 17, 0), B), (0, 2))


class RankTest(unittest.TestCase):
    def test_examples(self):
        self.assertEqual(rank_bounds((0, -1, 0), 0), (0, 0))
        self.assertEqual(rank_bounds((0, 4, 0), 10), (0, 0))
        self.assertEqual(rank_bounds((0, -82, 0), 200), (3, 3))
        # Areas of right triangles: none up to 4, then 5, 6, 7; 34 has two independent points.
        for n, rank in ((1, 0), (2, 0), (3, 0), (4, 0), (5, 1), (6, 1), (7, 1), (34, 2), (41, 2)):
            self.assertEqual(rank_bounds((0, -n * n, 0), 200), (rank, rank), n)

    def test_both_sides_have_the_same_rank(self):
        rng = random.Random(6)
        for _ in range(60):
            curve = some_curve(rng, 50)
            low, high = rank_bounds(curve, 40)
            other_low, other_high = rank_bounds(beside(curve), 40)
            self.assertTrue(0 <= low <= high and other_low <= high and low <= other_high)
            self.assertEqual(len(list_of(curve)) * len(list_of(beside(curve))), 4 * 2 ** high)

    def test_by_the_words(self):
        rng = random.Random(7)
        for curve in list(CURVES) + [some_curve(rng, 30) for _ in range(20)]:
            other = beside(curve)
            for B in (0, 3, 8):
                f = len(found_slowly(curve, B)) * len(found_slowly(other, B))
                low = max(f.bit_length() - 3, 0)
                high = (len(list_of(curve)) * len(list_of(other))).bit_length() - 3
                self.assertEqual(rank_bounds(curve, B), (low, high))

    def test_grows_with_the_bound(self):
        rng = random.Random(8)
        for _ in range(25):
            curve = some_curve(rng, 60)
            lows = [rank_bounds(curve, B)[0] for B in (0, 2, 10, 50, 200)]
            self.assertEqual(lows, sorted(lows))
            self.assertEqual(len({rank_bounds(curve, B)[1] for B in (0, 10, 200)}), 1)


class PointsTest(unittest.TestCase):
    def test_independent(self):
        rng = random.Random(9)
        ranks = set()
        curves = list(CURVES) + [some_curve(rng, most) for most in (40, 400) for _ in range(40)]
        curves += [beside(some_curve(rng, 30)) for _ in range(20)]
        for curve in curves:
            for B in (0, 5, 40):
                points = found_points(curve, B)
                low = rank_bounds(curve, B)[0]
                self.assertIsInstance(points, tuple)
                self.assertEqual(len(points), low, (curve, B))
                self.assertTrue(all(is_point(curve, point) for point in points))
                self.assertTrue(all(order_of(curve, point) is None for point in points))
                ranks.add(low)
                if low > 0:
                    self.assertIsNotNone(shown_by(curve, points), (curve, points))
        self.assertTrue({0, 1, 2, 3} <= ranks)

    def test_points_of_finite_order_are_left_out(self):
        # Found points of the finite parts of many forms.
        for curve in ((0, 4, 0), (5, 4, 0), (10, 9, 0), (-226, 11025, 0), (6, -3, 0), (7, 1, 0), (1, 16, 0)):
            self.assertEqual(len(found_points(curve, 60)), rank_bounds(curve, 60)[0])
            self.assertGreater(finite_form(curve)[1], 1)

    def test_back_of_found_points(self):
        # Where the curve itself has no found class but those of () and (0, 0), the points come from beside.
        rng = random.Random(10)
        many = 0
        while many < 10:
            curve = some_curve(rng, 40)
            if rank_bounds(curve, 30)[0] > 0 and set(found_classes(curve, 30)) == {1, class_of(curve[1])}:
                many += 1
                sources = [found_point(beside(curve), d, 30) for d in list_of(beside(curve))]
                told = [back(curve, point) for point in sources if point is not None]
                for point in found_points(curve, 30):
                    self.assertIn(point, told)
                    self.assertEqual(class_of_point(curve, point), 1)


class ErrorsTest(unittest.TestCase):
    def test_wrong_form_first(self):
        for curve in ((0, 0, 1), (1, 2, 3), (0, -1, -1)):
            calls = [lambda: list_of(curve), lambda: bars_of(curve)]
            for B in (5, -1, 201, None, True):
                calls += [
                    lambda B=B: found_classes(curve, B), lambda B=B: open_classes(curve, B), lambda B=B: found_point(curve, 1, B),
                    lambda B=B: rank_bounds(curve, B), lambda B=B: found_points(curve, B),
                ]
            for call in calls:
                self.assertRaises(WrongForm, call)

    def test_bad_bounds(self):
        for B in WRONG_BOUNDS:
            for call in (found_classes, open_classes, rank_bounds, found_points, lambda c, B: found_point(c, 1, B)):
                with self.assertRaises(BadNumber) as caught:
                    call((0, -25, 0), B)
                self.assertIs(caught.exception.number, B)

    def test_ends_of_the_bounds(self):
        self.assertEqual(rank_bounds((0, -25, 0), 0), (0, 1))
        self.assertEqual(rank_bounds((0, -25, 0), 200), (1, 1))
        self.assertEqual(found_points((0, -25, 0), 0), ())


if __name__ == "__main__":
    unittest.main()
