import random
import unittest
from fractions import Fraction

from pointsum.curves import numbers_of
from pointsum.fields import (
    added_over, changes_over, classes_over, count_over, curve_modulo, is_curve_over, is_point_over, multiple_over,
    opposite_over, points_over, twist_over,
)
from pointsum.symbols import symbol
from tests.test_curves import JUNK, some_curve
from tests.test_points import JUNK as POINT_JUNK

PRIMES = (2, 3, 5, 7, 11, 13, 23, 31)


def some_over(p, rng):
    while True:
        curve = tuple(rng.randrange(p) for _ in range(5))
        if is_curve_over(p, curve):
            return curve


def satisfies(p, curve, x, y):
    a1, a2, a3, a4, a6 = curve
    return (y * y + a1 * x * y + a3 * y - x ** 3 - a2 * x * x - a4 * x - a6) % p == 0


def points_slowly(p, curve):
    return [()] + [(x, y) for x in range(p) for y in range(p) if satisfies(p, curve, x, y)]


def led_slowly(p, curve, change):
    """The curve over p to which a change leads, by the words of the document."""
    a1, a2, a3, a4, a6 = curve
    u, r, s, t = change
    v = pow(u, -1, p)
    b1 = v * (a1 + 2 * s)
    b2 = v ** 2 * (a2 - s * a1 + 3 * r - s * s)
    b3 = v ** 3 * (a3 + r * a1 + 2 * t)
    b4 = v ** 4 * (a4 - s * a3 + 2 * r * a2 - (t + r * s) * a1 + 3 * r * r - 2 * s * t)
    b6 = v ** 6 * (a6 + r * a4 + r * r * a2 + r ** 3 - t * a3 - t * t - r * t * a1)
    return tuple(b % p for b in (b1, b2, b3, b4, b6))


class CurveOverTest(unittest.TestCase):
    def test_junk(self):
        for p in (2, 3, 5, 9973):
            for value in JUNK:
                self.assertIs(is_curve_over(p, value), False, value)

    def test_digits_alone(self):
        self.assertIs(is_curve_over(5, (0, 0, 1, 4, 0)), True)
        for value in ((0, 0, 1, -1, 0), (0, 0, 1, 9, 0), (5, 0, 1, 4, 0), (0, 0, 1, 4, 10 ** 2000), [0, 0, 1, 4, 0],
                      (0, 0, True, 4, 0), (False, 0, 1, 4, 0), (0, 0, 1, 4), (0, 1, 4), (0, 0, 1, 4, None), "00140"):
            self.assertIs(is_curve_over(5, value), False, value)

    def test_singular_ones(self):
        # Over 2 and 3, and 5: those without a singular point, told by looking at all points over p.
        for p in (2, 3, 5):
            many = 0
            digits = range(p)
            for curve in [(a, b, c, d, e) for a in digits for b in digits for c in digits for d in digits for e in digits]:
                a1, a2, a3, a4, _ = curve
                singular = any(
                    (2 * y + a1 * x + a3) % p == 0 and (3 * x * x + 2 * a2 * x + a4 - a1 * y) % p == 0
                    for x in digits for y in digits if satisfies(p, curve, x, y)
                )
                self.assertIs(is_curve_over(p, curve), not singular)
                many += not singular
            self.assertEqual(many, p ** 5 - p ** 4)

    def test_modulo(self):
        rng = random.Random(1)
        for _ in range(100):
            curve = some_curve(rng, 9, 99)
            for p in PRIMES + (9973,):
                told = curve_modulo(curve, p)
                if numbers_of(curve)[6] % p == 0:
                    self.assertIsNone(told)
                else:
                    self.assertEqual(told, tuple(n % p for n in curve))
                    self.assertTrue(is_curve_over(p, told))
        self.assertEqual(curve_modulo((0, 0, 1, -1, 0), 2), (0, 0, 1, 1, 0))
        self.assertEqual(curve_modulo((0, -1, 0), 7), (0, 0, 0, 6, 0))
        self.assertIsNone(curve_modulo((0, -1, 0), 2))
        self.assertIsNone(curve_modulo((0, 0, -2), 3))
        self.assertIsNone(curve_modulo((0, 0, 1, -1, 0), 37))


class PointOverTest(unittest.TestCase):
    def test_junk(self):
        for p, curve in ((2, (0, 0, 1, 1, 0)), (7, (0, 0, 0, 6, 0))):
            for value in POINT_JUNK:
                expected = value == (0, 0) and isinstance(value, tuple)
                self.assertIs(is_point_over(p, curve, value), expected, value)

    def test_by_putting_in(self):
        rng = random.Random(2)
        for p in PRIMES:
            curve = some_over(p, rng)
            for x in range(-1, p + 2):
                for y in range(-1, p + 2):
                    right = 0 <= x < p and 0 <= y < p and satisfies(p, curve, x, y)
                    self.assertIs(is_point_over(p, curve, (x, y)), right)
            self.assertIs(is_point_over(p, curve, ()), True)
            for x, y in points_slowly(p, curve)[1:4]:
                for value in ([x, y], (x, y, 0), (x,), (str(x), y), (x, None), (x + 10 ** 2000 * p, y), ((x, 1), (y, 1))):
                    self.assertIs(is_point_over(p, curve, value), False)
        self.assertIs(is_point_over(7, (0, 0, 0, 6, 0), (1, False)), False)
        self.assertIs(is_point_over(7, (0, 0, 0, 6, 0), (True, 0)), False)
        self.assertIs(is_point_over(7, (0, 0, 0, 6, 0), (1, 0)), True)

    def test_points_and_counts(self):
        rng = random.Random(3)
        for p in PRIMES:
            for _ in range(6):
                curve = some_over(p, rng)
                points = points_slowly(p, curve)
                self.assertEqual(points_over(p, curve), tuple(points))
                self.assertEqual(count_over(p, curve), len(points))

    def test_great_primes(self):
        rng = random.Random(4)
        for p in (997, 9973):
            curve = some_over(p, rng)
            b2, b4, b6, _, _, _, _ = numbers_of(curve)
            many = p + 1 + sum(symbol(4 * x ** 3 + b2 * x * x + 2 * b4 * x + b6, p) for x in range(p))
            self.assertEqual(count_over(p, curve), many)
        points = points_over(997, curve_modulo((0, 0, 1, -1, 0), 997))
        self.assertEqual(len(points), count_over(997, (0, 0, 1, 996, 0)))
        self.assertEqual(list(points[1:]), sorted(points[1:]))
        self.assertTrue(all(is_point_over(997, (0, 0, 1, 996, 0), P) for P in points))


class SumsOverTest(unittest.TestCase):
    def test_the_group(self):
        rng = random.Random(5)
        for p in (2, 3, 5, 7, 11):
            for _ in range(4):
                curve = some_over(p, rng)
                points = points_slowly(p, curve)
                for P in points:
                    self.assertEqual(added_over(p, curve, P, ()), P)
                    self.assertEqual(added_over(p, curve, (), P), P)
                    minus = opposite_over(p, curve, P)
                    self.assertIn(minus, points)
                    self.assertEqual(added_over(p, curve, P, minus), ())
                    self.assertEqual(len({added_over(p, curve, P, Q) for Q in points}), len(points))
                    for Q in points:
                        both = added_over(p, curve, P, Q)
                        self.assertIn(both, points)
                        self.assertEqual(both, added_over(p, curve, Q, P))
                        S = rng.choice(points)
                        left = added_over(p, curve, both, S)
                        self.assertEqual(left, added_over(p, curve, P, added_over(p, curve, Q, S)))

    def test_lines(self):
        # P, Q and the opposite of their sum lie on one line.
        rng = random.Random(6)
        for p in (2, 3, 13, 31):
            for _ in range(6):
                curve = some_over(p, rng)
                for P in points_slowly(p, curve)[1:]:
                    for Q in points_slowly(p, curve)[1:]:
                        S = opposite_over(p, curve, added_over(p, curve, P, Q))
                        if S == () or P == Q:
                            continue
                        self.assertEqual(((Q[1] - P[1]) * (S[0] - P[0]) - (S[1] - P[1]) * (Q[0] - P[0])) % p, 0)

    def test_multiples(self):
        rng = random.Random(7)
        for p in PRIMES:
            curve = some_over(p, rng)
            points = points_slowly(p, curve)
            for P in rng.sample(points, min(4, len(points))):
                place = ()
                for n in range(2 * p + 3):
                    self.assertEqual(multiple_over(p, curve, n, P), place)
                    self.assertEqual(multiple_over(p, curve, -n, P), opposite_over(p, curve, place))
                    place = added_over(p, curve, place, P)
                N = len(points)
                for n in (10 ** 2000, -10 ** 2000, 10 ** 4000 + 7, N * 10 ** 100, -N):
                    self.assertEqual(multiple_over(p, curve, n, P), multiple_over(p, curve, n % N, P))
                self.assertEqual(multiple_over(p, curve, N, P), ())


class TwistOverTest(unittest.TestCase):
    def test_counts(self):
        rng = random.Random(8)
        for p in PRIMES[1:] + (997, 9973):
            curve = some_over(p, rng)
            other = twist_over(p, curve)
            self.assertTrue(is_curve_over(p, other))
            self.assertEqual(count_over(p, curve) + count_over(p, other), 2 * p + 2)
            d = min(d for d in range(2, p) if pow(d, (p - 1) // 2, p) == p - 1)
            b2, b4, b6, _, _, _, _ = numbers_of(curve)
            self.assertEqual(other, (0, d * b2 % p, 0, 8 * d * d * b4 % p, 16 * d ** 3 * b6 % p))
        self.assertEqual(twist_over(7, (0, 0, 0, 6, 0)), (0, 0, 0, 8 * 9 * 2 * 6 % 7, 0))


class ChangesOverTest(unittest.TestCase):
    def test_by_trying_all(self):
        rng = random.Random(9)
        for p in (2, 3, 5, 7):
            changes = [(u, r, s, t) for u in range(1, p) for r in range(p) for s in range(p) for t in range(p)]
            for _ in range(3):
                curve = some_over(p, rng)
                table = {change: led_slowly(p, curve, change) for change in changes}
                for other in rng.sample(sorted(set(table.values())), 2) + [curve, some_over(p, rng)]:
                    told = tuple(change for change in changes if table[change] == other)
                    self.assertEqual(changes_over(p, curve, other), told)

    def test_greater_primes(self):
        rng = random.Random(10)
        for p in (11, 23, 47):
            for curve in (some_over(p, rng), (0, 0, 0, 0, 3), (0, 0, 0, 5, 0)):
                change = (rng.randrange(1, p),) + tuple(rng.randrange(p) for _ in range(3))
                other = led_slowly(p, curve, change)
                told = changes_over(p, curve, other)
                self.assertIn(change, told)
                self.assertEqual(list(told), sorted(told))
                own = changes_over(p, curve, curve)
                self.assertEqual(len(told), len(own))
                self.assertIn((1, 0, 0, 0), own)
        # j = 0 and j = 1728 have more own changes where the field has roots of 1.
        self.assertEqual(len(changes_over(13, (0, 0, 0, 0, 1), (0, 0, 0, 0, 1))), 6)
        self.assertEqual(len(changes_over(13, (0, 0, 0, 1, 0), (0, 0, 0, 1, 0))), 4)
        self.assertEqual(len(changes_over(11, (0, 0, 0, 0, 1), (0, 0, 0, 0, 1))), 2)
        self.assertEqual(changes_over(7, (0, 0, 0, 6, 0), (0, 0, 0, 0, 1)), ())


class ClassesOverTest(unittest.TestCase):
    def test_example(self):
        told = classes_over(2)
        self.assertEqual(len(told), 5)
        self.assertEqual(sorted((N, own) for _, own, N in told), [(1, 4), (2, 2), (3, 2), (4, 2), (5, 4)])

    def test_all(self):
        for p in (2, 3, 5, 7):
            told = classes_over(p)
            self.assertEqual(list(told), sorted(told))
            self.assertEqual(sum(Fraction(1, own) for _, own, _ in told), p)
            self.assertEqual(sum((p - 1) * p ** 3 // own for _, own, _ in told), p ** 5 - p ** 4)
            for curve, own, N in told:
                self.assertEqual(len(changes_over(p, curve, curve)), own)
                self.assertEqual(len(points_slowly(p, curve)), N)
            if p > 2:
                self.assertEqual(sum(Fraction(N - p - 1, own) for _, own, N in told), 0)

    def test_least_of_each_class(self):
        for p in (2, 3, 5):
            told = classes_over(p)
            changes = [(u, r, s, t) for u in range(1, p) for r in range(p) for s in range(p) for t in range(p)]
            seen = set()
            for curve, _, _ in told:
                images = {led_slowly(p, curve, change) for change in changes}
                self.assertEqual(min(images), curve)
                self.assertFalse(images & seen)
                seen |= images


if __name__ == "__main__":
    unittest.main()
