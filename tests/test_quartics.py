import random
import unittest
from fractions import Fraction
from math import gcd, isqrt

from pointsum.quartics import at_reals, is_quartic, points_in, value_of


def some_quartic(rng, most):
    while True:
        quartic = tuple(rng.randint(-most, most) for _ in range(3))
        if is_quartic(quartic):
            return quartic


class IsQuarticTest(unittest.TestCase):
    def test_junk(self):
        for value in (
            None, True, False, 0, 5, "", "abc", (), [], [1, 0, 1], (1, 0), (1, 0, 1, 0), (1, None, 1), (1, 0, "1"), (True, 0, 1),
            (1, False, 1), (1, 0, True), ((1,), 0, 1), (1, [0], 1), ((1, 0, 1),), ((1, 1), (0, 1), (1, 1)), ("1", "0", "1"),
        ):
            self.assertIs(is_quartic(value), False, value)

    def test_no_quartics(self):
        # d1 d2 = 0, or a a = 4 d1 d2.
        for value in ((0, 1, 1), (1, 1, 0), (0, 0, 0), (1, 2, 1), (1, -2, 1), (-3, 6, -3), (2, 12, 18), (10 ** 50, 2 * 10 ** 50, 10 ** 50)):
            self.assertIs(is_quartic(value), False, value)

    def test_quartics(self):
        for value in ((1, 0, 1), (5, 0, 5), (-1, 5, -1), (2, 0, -34), (1, 2, -1), (10 ** 2000, 1, -7), (10 ** 50, 2 * 10 ** 50, 10 ** 50 + 1)):
            self.assertIs(is_quartic(value), True, value)
        for d1 in range(-4, 5):
            for a in range(-9, 10):
                for d2 in range(-4, 5):
                    self.assertIs(is_quartic((d1, a, d2)), d1 * d2 * (a * a - 4 * d1 * d2) != 0)


class AtRealsTest(unittest.TestCase):
    def test_by_values(self):
        # With T = x x / (y y) the value is greatest at an end or at the top of a parabola.
        for d1 in range(-5, 6):
            for a in range(-12, 13):
                for d2 in range(-5, 6):
                    if is_quartic((d1, a, d2)):
                        top = Fraction(-a, 2 * d1)
                        places = [0] + ([top] if top > 0 else [])
                        right = d1 > 0 or any(d1 * T * T + a * T + d2 >= 0 for T in places)
                        self.assertIs(at_reals((d1, a, d2)), right)

    def test_examples(self):
        self.assertIs(at_reals((-1, 5, -1)), True)
        self.assertIs(at_reals((-1, -5, -1)), False)
        self.assertIs(at_reals((-1, 1, -1)), False)
        self.assertIs(at_reals((-1, 0, 1)), True)
        self.assertIs(at_reals((1, 0, -1)), True)
        self.assertIs(at_reals((-10 ** 18, 10 ** 11, -1)), True)
        self.assertIs(at_reals((-10 ** 18, 10 ** 11, -10 ** 4)), False)


class ValueTest(unittest.TestCase):
    def test_values(self):
        rng = random.Random(1)
        for _ in range(200):
            d1, a, d2 = some_quartic(rng, 50)
            x, y = rng.randint(-30, 30), rng.randint(-30, 30)
            self.assertEqual(value_of((d1, a, d2), x, y), d1 * x ** 4 + a * x * x * y * y + d2 * y ** 4)
        self.assertEqual(value_of((2, 0, -34), 3, 1), 128)


class PointsInTest(unittest.TestCase):
    def slowly(self, quartic, B):
        d1, a, d2 = quartic
        found = []
        for x in range(B + 1):
            for y in range(B + 1):
                value = d1 * x ** 4 + a * x * x * y * y + d2 * y ** 4
                if gcd(x, y) == 1 and value >= 0 and isqrt(value) ** 2 == value:
                    found.append((x, y, isqrt(value)))
        return tuple(found)

    def test_small_boxes(self):
        rng = random.Random(2)
        many = 0
        for _ in range(200):
            quartic, B = some_quartic(rng, 12), rng.choice((1, 2, 3, 9, 30))
            told = points_in(quartic, B)
            self.assertEqual(told, self.slowly(quartic, B))
            many += len(told)
        self.assertGreater(many, 100)

    def test_edges(self):
        # d1 a square: (1, 0, z); d2 a square: (0, 1, z); z = 0.
        self.assertEqual(points_in((4, 0, 3), 1), ((1, 0, 2),))
        self.assertEqual(points_in((3, 1, 9), 1), ((0, 1, 3),))
        self.assertEqual(points_in((1, 0, -1), 1), ((1, 0, 1), (1, 1, 0)))
        self.assertEqual(points_in((-1, -5, -1), 50), ())
        self.assertEqual(points_in((2, 0, -34), 200), ())

    def test_great_boxes(self):
        self.assertEqual(points_in((1, 0, 1), 1000), ((0, 1, 1), (1, 0, 1)))
        self.assertEqual(points_in((2, 0, -1), 1000), ((1, 1, 1), (13, 1, 239)))
        self.assertEqual(points_in((2, 0, -1), 12), ((1, 1, 1),))
        # All values are squares modulo small numbers.
        self.assertEqual(points_in((1, 0, 16 * 9 * 5 * 7 * 11 * 13 * 17 * 19 * 23 * 29), 40), ((1, 0, 1),))
        told = points_in((10 ** 18, 10 ** 11, -10 ** 18), 100)
        self.assertEqual(told, self.slowly((10 ** 18, 10 ** 11, -10 ** 18), 100))
        self.assertIn((1, 0, 10 ** 9), told)


if __name__ == "__main__":
    unittest.main()
