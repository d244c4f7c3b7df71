import random
import unittest
from fractions import Fraction
from math import gcd, isqrt

from pointsum.errors import BadNumber
from pointsum.points import added, is_point, multiple
from pointsum.search import box_of, parts_of, size_of
from tests.right_values import frac
from tests.test_finite import some_plain


def box_slowly(curve, B):
    a, b, c = curve
    found = []
    for e in range(1, isqrt(B) + 1):
        for m in range(-B, B + 1):
            if gcd(m, e) == 1:
                x = Fraction(m, e * e)
                square = (x ** 3 + a * x * x + b * x + c) * e ** 6
                r = isqrt(max(square.numerator, 0))
                if r * r == square:
                    found += [((m, e * e), (n, e ** 3)) for n in sorted({-r, r})]
    found.sort(key=lambda P: (max(abs(P[0][0]), P[0][1]), isqrt(P[0][1]), P[0][0], frac(P[1])))
    return ((), *found)


class PartsTest(unittest.TestCase):
    def test_parts_and_sizes(self):
        self.assertEqual(parts_of(((3, 1), (5, 1))), (3, 1))
        self.assertEqual(parts_of(((129, 100), (-383, 1000))), (129, 10))
        self.assertEqual(parts_of(((-5, 9), (-100, 27))), (-5, 3))
        self.assertEqual(parts_of(((0, 1), (0, 1))), (0, 1))
        self.assertEqual(size_of(()), 1)
        self.assertEqual(size_of(((0, 1), (0, 1))), 1)
        self.assertEqual(size_of(((-5, 9), (-100, 27))), 9)
        self.assertEqual(size_of(((129, 100), (383, 1000))), 129)
        self.assertEqual(size_of(((-4, 1), (6, 1))), 4)

    def test_great_points(self):
        P = multiple((0, -25, 0), 40, ((-4, 1), (6, 1)))
        m, e = parts_of(P)
        self.assertEqual(P[0], (m, e * e))
        self.assertEqual(P[1][1], e ** 3)
        self.assertEqual(size_of(P), max(abs(m), e * e))


class BoxTest(unittest.TestCase):
    def test_example(self):
        row = (((3, 1), (-5, 1)), ((3, 1), (5, 1)), ((129, 100), (-383, 1000)), ((129, 100), (383, 1000)))
        self.assertEqual(box_of((0, 0, -2), 130), ((), *row))
        self.assertEqual(box_of((0, 0, -2), 129), ((), *row))
        self.assertEqual(box_of((0, 0, -2), 128), ((), *row[:2]))
        self.assertEqual(box_of((0, 0, -2), 3), ((), *row[:2]))
        self.assertEqual(box_of((0, 0, -2), 2), ((),))

    def test_against_all_parts(self):
        rng = random.Random(1)
        many = 0
        for _ in range(60):
            curve, B = some_plain(rng, 15), rng.choice((1, 2, 3, 4, 10, 37, 100, 260))
            told = box_of(curve, B)
            self.assertEqual(told, box_slowly(curve, B))
            many += len(told)
        self.assertGreater(many, 150)

    def test_order_of_equal_sizes(self):
        # Sizes 1 (e = 1, m = -1, 0, 1), 4 and 9 (e = 1 ahead of e = 2 and 3).
        curve = (0, -1, 1)
        told = box_of(curve, 9)
        self.assertEqual(told[:7], (
            (), ((-1, 1), (-1, 1)), ((-1, 1), (1, 1)), ((0, 1), (-1, 1)), ((0, 1), (1, 1)), ((1, 1), (-1, 1)), ((1, 1), (1, 1))))
        self.assertEqual(told, box_slowly(curve, 9))
        sizes = [size_of(P) for P in box_of((0, 0, 17), 600)]
        self.assertEqual(sizes, sorted(sizes))
        # y = 0 stands once.
        self.assertEqual(box_of((0, -1, 0), 8192), ((), ((-1, 1), (0, 1)), ((0, 1), (0, 1)), ((1, 1), (0, 1))))

    def test_great_boxes(self):
        told = box_of((0, 0, 17), 8192)
        self.assertIn(((5234, 1), (378661, 1)), told)
        self.assertIn(((-2, 1), (-3, 1)), told)
        self.assertTrue(all(is_point((0, 0, 17), P) and size_of(P) <= 8192 for P in told))
        self.assertEqual(len(set(told)), len(told))
        small = [P for P in told if size_of(P) <= 120]
        self.assertEqual(tuple(small), box_slowly((0, 0, 17), 120))
        # All sums of these points that are small enough are there.
        for P in small:
            for Q in small:
                both = added((0, 0, 17), P, Q)
                self.assertEqual(both in told, size_of(both) <= 8192)
        self.assertEqual(box_of((-10000, 9999, -9998), 100), box_slowly((-10000, 9999, -9998), 100))

    def test_bad_numbers(self):
        for B in (0, -1, 8193, 10 ** 30, -8192):
            with self.assertRaises(BadNumber) as caught:
                box_of((0, 0, -2), B)
            self.assertEqual(caught.exception.number, B)


if __name__ == "__main__":
    unittest.main()
