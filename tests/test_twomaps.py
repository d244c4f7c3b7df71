import random
import unittest
from fractions import Fraction

from pointsum.changes import led_point
from pointsum.curves import five, is_plain
from pointsum.errors import BadNumber, WrongForm
from pointsum.points import added, is_point, multiple, opposite
from pointsum.primes import class_of, class_times
from pointsum.quartics import at_reals
from pointsum.twomaps import back, beside, class_of_point, parents, point_of_class, quartic_of, there
from tests.right_values import frac, order_of_points, pair, whole_points_slowly

END = ((0, 1), (0, 1))
CURVES = (
    (0, -1, 0), (0, 4, 0), (0, -25, 0), (0, -36, 0), (0, 17, 0), (1, -6, 0), (-5, 4, 0), (3, 9, 0), (2, -3, 0), (0, 1, 0),
    (-1, -12, 0), (4, -9, 0), (10, 9, 0), (0, -41, 0), (7, -8, 0), (0, -82, 0), (-6, 25, 0), (12, -45, 0),
)


def some_points(curve, rng):
    """Zero, (0, 0), whole points of a curve and some of their sums."""
    found = rng.sample(whole_points_slowly(five(curve), 150), min(4, len(whole_points_slowly(five(curve), 150))))
    found = [(), END] + found
    return found + [added(curve, P, Q) for P in found[-3:] for Q in found[-3:]]


class BesideTest(unittest.TestCase):
    def test_curves(self):
        self.assertEqual(beside((0, -1, 0)), (0, 4, 0))
        self.assertEqual(beside((0, 17, 0)), (0, -68, 0))
        self.assertEqual(beside((3, 2, 0)), (-6, 1, 0))
        for a, b in ((3, 2), (-10000, 9999), (0, -5)):
            self.assertEqual(beside(beside((a, b, 0))), (4 * a, 16 * b, 0))


class MapsTest(unittest.TestCase):
    def test_by_the_words(self):
        rng = random.Random(1)
        for curve in CURVES:
            a, b, _ = curve
            for P in some_points(curve, rng):
                told = there(curve, P)
                if P in ((), END):
                    self.assertEqual(told, ())
                    continue
                x, y = frac(P[0]), frac(P[1])
                self.assertEqual(told, (pair(y * y / (x * x)), pair(y * (b - x * x) / (x * x))))
            for Q in some_points(beside(curve), rng):
                told = back(curve, Q)
                if Q in ((), END):
                    self.assertEqual(told, ())
                    continue
                x, y = frac(Q[0]), frac(Q[1])
                right = (pair(y * y / (4 * x * x)), pair(y * (a * a - 4 * b - x * x) / (8 * x * x)))
                self.assertEqual(told, right)

    def test_points_and_doubles(self):
        rng = random.Random(2)
        for curve in CURVES:
            other = beside(curve)
            for P in some_points(curve, rng):
                self.assertTrue(is_point(other, there(curve, P)))
                self.assertEqual(back(curve, there(curve, P)), added(curve, P, P))
                self.assertEqual(there(curve, P) == (), P in ((), END))
            for Q in some_points(other, rng):
                self.assertTrue(is_point(curve, back(curve, Q)))
                self.assertEqual(there(curve, back(curve, Q)), added(other, Q, Q))
                # Back is there of the curve beside, led by x = X / 4, y = Y / 8.
                self.assertEqual(back(curve, Q), led_point(there(other, Q), ((2, 1), (0, 1), (0, 1), (0, 1))))

    def test_sums_to_sums(self):
        rng = random.Random(3)
        for curve in CURVES:
            other = beside(curve)
            points = some_points(curve, rng)
            for P in points:
                for Q in points[:5] + [opposite(curve, P)]:
                    right = added(other, there(curve, P), there(curve, Q))
                    self.assertEqual(there(curve, added(curve, P, Q)), right)
            points = some_points(other, rng)
            for P in points:
                for Q in points[:5] + [opposite(other, P)]:
                    right = added(curve, back(curve, P), back(curve, Q))
                    self.assertEqual(back(curve, added(other, P, Q)), right)

    def test_example(self):
        P = ((-4, 1), (6, 1))
        self.assertEqual(there((0, -25, 0), P), ((9, 4), (-123, 8)))
        self.assertEqual(back((0, -25, 0), ((9, 4), (-123, 8))), ((1681, 144), (-62279, 1728)))
        self.assertEqual(there((0, -1, 0), ((1, 1), (0, 1))), END)
        self.assertEqual(back((0, -1, 0), ((2, 1), (4, 1))), ((1, 1), (0, 1)))


class ClassTest(unittest.TestCase):
    def test_by_the_words(self):
        rng = random.Random(4)
        for curve in CURVES + tuple(beside(curve) for curve in CURVES):
            self.assertEqual(class_of_point(curve, ()), 1)
            self.assertEqual(class_of_point(curve, END), class_of(curve[1]))
            points = some_points(curve, rng)
            for P in points:
                if P not in ((), END):
                    self.assertEqual(class_of_point(curve, P), class_of(P[0][0] * P[0][1]))
                for Q in points[:5]:
                    told = class_times(class_of_point(curve, P), class_of_point(curve, Q))
                    self.assertEqual(class_of_point(curve, added(curve, P, Q)), told)

    def test_great_points(self):
        # Numbers that nobody factors.
        P = ((-4, 1), (6, 1))
        for n in (41, 47, 54):
            self.assertEqual(class_of_point((0, -25, 0), multiple((0, -25, 0), n, P)), -1 if n % 2 else 1)
        self.assertEqual(class_of_point((0, -25, 0), added((0, -25, 0), multiple((0, -25, 0), 47, P), END)), 1)

    def test_class_one_exactly_for_parents(self):
        rng = random.Random(5)
        for curve in CURVES:
            for P in some_points(curve, rng):
                self.assertEqual(parents(curve, P) != (), class_of_point(curve, P) == 1)


    def test_example(self):
        self.assertEqual(class_of_point((0, -1, 0), END), -1)
        self.assertEqual(class_of_point((0, -1, 0), ((1, 1), (0, 1))), 1)
        self.assertEqual(class_of_point((0, -1, 0), ((-1, 1), (0, 1))), -1)
        self.assertEqual(class_of_point((0, 4, 0), ((2, 1), (4, 1))), 2)
        self.assertEqual(class_of_point((0, 4, 0), END), 1)
        # Those below 0 have no real point.
        for d in (1, 2):
            self.assertTrue(at_reals(quartic_of((0, 4, 0), d)))
            self.assertFalse(at_reals(quartic_of((0, 4, 0), -d)))


class QuarticTest(unittest.TestCase):
    def test_quartics(self):
        self.assertEqual(quartic_of((3, -12, 0), 6), (6, 3, -2))
        self.assertEqual(quartic_of((3, -12, 0), -6), (-6, 3, 2))
        self.assertEqual(quartic_of((0, -1, 0), 1), (1, 0, -1))
        self.assertEqual(quartic_of((0, -1, 0), -1), (-1, 0, 1))
        self.assertEqual(quartic_of(beside((0, 17, 0)), -34), (-34, 0, 2))

    def test_bad_numbers(self):
        for d in (0, 4, -4, 12, -12, 5, -7, 24, 10 ** 30):
            with self.assertRaises(BadNumber) as caught:
                quartic_of((3, -12, 0), d)
            self.assertEqual(caught.exception.number, d)
        for d in range(-80, 81):
            if d != 0 and 72 % d == 0 and class_of(d) == d:
                self.assertEqual(quartic_of((1, 72, 0), d), (d, 1, 72 // d))
            else:
                self.assertRaises(BadNumber, quartic_of, (1, 72, 0), d)

    def test_points_of_quartics(self):
        for curve in CURVES:
            a, b, _ = curve
            for d in [d for d in range(-abs(b), abs(b) + 1) if d and b % d == 0 and class_of(d) == d]:
                for M in range(-6, 7):
                    for e in range(-6, 7):
                        value = d * M ** 4 + a * M * M * e * e + b // d * e ** 4
                        if M * e == 0 or value < 0 or int(value ** 0.5 + 0.5) ** 2 != value:
                            continue
                        N = int(value ** 0.5 + 0.5)
                        for sign in (1, -1):
                            told = point_of_class(curve, d, M, e, sign * N)
                            x, y = Fraction(d * M * M, e * e), Fraction(d * M * sign * N, e ** 3)
                            self.assertEqual(told, (pair(x), pair(y)))
                            self.assertTrue(is_point(curve, told))
                            self.assertEqual(class_of_point(curve, told), d)


class ParentsTest(unittest.TestCase):
    def test_against_back(self):
        rng = random.Random(6)
        for curve in CURVES:
            other = beside(curve)
            for Q in some_points(other, rng):
                told = parents(curve, back(curve, Q))
                self.assertEqual(told, order_of_points([Q, added(other, Q, END)]))
            for P in some_points(curve, rng):
                told = parents(curve, P)
                self.assertIn(len(told), (0, 2))
                for Q in told:
                    self.assertTrue(is_point(other, Q))
                    self.assertEqual(back(curve, Q), P)

    def test_zero_and_the_end(self):
        for curve in CURVES:
            self.assertEqual(parents(curve, ()), ((), END))
        # b is a square, or none.
        self.assertEqual(parents((0, 4, 0), END), (((-4, 1), (0, 1)), ((4, 1), (0, 1))))
        self.assertEqual(parents((-5, 4, 0), END), (((-9, 1), (0, 1)), ((-1, 1), (0, 1))))
        self.assertEqual(parents((3, 9, 0), END), (((-3, 1), (0, 1)), ((9, 1), (0, 1))))
        for curve in ((0, -1, 0), (0, 17, 0), (0, -4, 0), (1, 6, 0)):
            self.assertEqual(parents(curve, END), ())
        # A point of order two with a square as x: one x for both parents.
        self.assertEqual(parents((0, -1, 0), ((1, 1), (0, 1))), (((2, 1), (-4, 1)), ((2, 1), (4, 1))))


class WrongFormTest(unittest.TestCase):
    def test_all(self):
        self.assertTrue(is_plain((0, -1, 1)))
        for curve in ((0, -1, 1), (1, 2, -3), (0, 0, -2), (10000, 10000, 10000)):
            for call in (
                lambda: beside(curve), lambda: there(curve, ()), lambda: back(curve, ()),
                lambda: class_of_point(curve, ()), lambda: quartic_of(curve, 1), lambda: quartic_of(curve, 0),
                lambda: point_of_class(curve, 1, 1, 1, 1), lambda: parents(curve, ()),
            ):
                self.assertRaises(WrongForm, call)


if __name__ == "__main__":
    unittest.main()
