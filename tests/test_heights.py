import random
import unittest
from fractions import Fraction
from math import ceil, lcm

from pointsum.errors import BadNumber
from pointsum.finite import finite_part, order_of
from pointsum.heights import (
    constants, determinant_bounds, doubling_forms, height_bounds, least_height, pairing_bounds,
)
from pointsum.points import added, multiple, opposite
from pointsum.search import box_of, size_of
from tests.right_values import frac, pair
from tests.test_finite import some_plain

CURVES = (
    (0, 0, -2), (0, 0, 17), (0, -25, 0), (0, -1, 0), (0, 0, 1), (4, 4, -3), (2, -3, 0), (1, -6, 0), (-4, 4, 5), (6, 9, 1), (3, -7, 11),
)


def forms_slowly(curve):
    a, b, c = curve
    return [1, 0, -2 * b, -8 * c, b * b - 4 * a * c], [0, 4, 4 * a, 4 * b, 4 * c]


def solved(rows, right):
    """The solution of a square system by Fractions."""
    rows = [[Fraction(n) for n in row] + [Fraction(r)] for row, r in zip(rows, right)]
    for k in range(len(rows)):
        at = next(i for i in range(k, len(rows)) if rows[i][k])
        rows[k], rows[at] = rows[at], rows[k]
        rows[k] = [n / rows[k][k] for n in rows[k]]
        for i in range(len(rows)):
            if i != k:
                rows[i] = [n - rows[i][k] * m for n, m in zip(rows[i], rows[k])]
    return [row[-1] for row in rows]


def constants_slowly(curve):
    F, G = forms_slowly(curve)
    rows = [[f[k - j] if 0 <= k - j <= 4 else 0 for f in (F, G) for j in range(4)] for k in range(8)]
    told = []
    for at in (7, 0):
        solution = solved(rows, [int(k == at) for k in range(8)])
        R = lcm(*(n.denominator for n in solution))
        told.append((R, sum(abs(n * R) for n in solution)))
    R = lcm(told[0][0], told[1][0])
    return max(ceil(R * S / r) for r, S in told), max(sum(map(abs, F)), sum(map(abs, G)))


def bounds_slowly(curve, P, n):
    K, L = constants_slowly(curve)
    length = size_of(many_doubles(curve, P, n)).bit_length()
    low = (length - 1 - Fraction(K.bit_length(), 3)) / 4 ** n
    return max(low, 0), (length + Fraction(L.bit_length(), 3)) / 4 ** n


def many_doubles(curve, P, n):
    for _ in range(n):
        P = added(curve, P, P)
    return P


def joined(op, A, B):
    four = [op(f, g) for f in A for g in B]
    return min(four), max(four)


def plus(A, B):
    return joined(lambda f, g: f + g, A, B)


def less(A, B):
    return joined(lambda f, g: f - g, A, B)


def times(A, B):
    return joined(lambda f, g: f * g, A, B)


def pairing_slowly(curve, P, Q, n):
    A = less(less(bounds_slowly(curve, added(curve, P, Q), n), bounds_slowly(curve, P, n)), bounds_slowly(curve, Q, n))
    return A[0] / 2, A[1] / 2


def told(interval):
    return pair(interval[0]), pair(interval[1])


def right(interval):
    return frac(interval[0]), frac(interval[1])


class FormsTest(unittest.TestCase):
    def test_example(self):
        self.assertEqual(doubling_forms((0, 0, -2)), ((1, 0, 0, 16, 0), (0, 4, 0, 0, -8)))
        self.assertEqual(constants((0, 0, -2)), (912, 17))

    def test_against_the_words(self):
        rng = random.Random(1)
        # b = 0, a a = 4 b, c = 0 and others.
        curves = list(CURVES) + [some_plain(rng, most) for most in (3, 50, 10000) for _ in range(15)]
        for curve in curves:
            self.assertEqual(doubling_forms(curve), tuple(tuple(form) for form in forms_slowly(curve)))
            self.assertEqual(constants(curve), constants_slowly(curve))

    def test_forms_double(self):
        rng = random.Random(2)
        for curve in CURVES:
            F, G = doubling_forms(curve)
            for P in rng.sample(box_of(curve, 100), min(5, len(box_of(curve, 100)))):
                if P == ():
                    continue
                m, N = P[0]
                upper, lower = (sum(c * m ** (4 - k) * N ** k for k, c in enumerate(form)) for form in (F, G))
                double = added(curve, P, P)
                if lower == 0:
                    self.assertEqual(double, ())
                else:
                    self.assertEqual(frac(double[0]), Fraction(upper, lower))

    def test_sizes_of_doubles(self):
        for curve in CURVES:
            K, other = constants(curve)
            for P in box_of(curve, 300):
                H, double = size_of(P), size_of(added(curve, P, P))
                self.assertLessEqual(H ** 4, K * double)
                self.assertLessEqual(double, other * H ** 4)


class HeightTest(unittest.TestCase):
    def test_example(self):
        # 2 P has the size 129.
        P = ((3, 1), (5, 1))
        self.assertEqual(height_bounds((0, 0, -2), P, 1), (pair(Fraction(11, 12)), pair(Fraction(29, 12))))
        self.assertEqual(height_bounds((0, 0, -2), P, 0), ((0, 1), pair(2 + Fraction(5, 3))))

    def test_by_the_words(self):
        rng = random.Random(3)
        for curve in CURVES:
            box = box_of(curve, 200)
            for P in rng.sample(box, min(4, len(box))):
                for n in range(7):
                    self.assertEqual(height_bounds(curve, P, n), told(bounds_slowly(curve, P, n)), (curve, P, n))

    def test_laws(self):
        rng = random.Random(4)
        for curve in CURVES:
            box = box_of(curve, 200)
            for P in rng.sample(box, min(5, len(box))):
                all_bounds = [right(height_bounds(curve, P, n)) for n in range(7)]
                # All bounds are of one number.
                self.assertLessEqual(max(low for low, _ in all_bounds), min(high for _, high in all_bounds))
                self.assertEqual(height_bounds(curve, opposite(curve, P), 3), height_bounds(curve, P, 3))
                low, high = right(height_bounds(curve, added(curve, P, P), 5))
                self.assertTrue(low <= 4 * all_bounds[6][1] and 4 * all_bounds[6][0] <= high)

    def test_finite_order(self):
        for curve in ((0, 0, 1), (0, -1, 0), (0, 4, 0), (0, 0, 4), (-15, 32, 256)):
            for P in finite_part(curve):
                for n in range(7):
                    low, high = height_bounds(curve, P, n)
                    self.assertEqual(low, (0, 1))
                    length = size_of(many_doubles(curve, P, n)).bit_length()
                    self.assertEqual(frac(high), (length + Fraction(constants(curve)[1].bit_length(), 3)) / 4 ** n)
        self.assertEqual(height_bounds((0, 0, -2), (), 6)[0], (0, 1))
        # 2 (0, 0) is (), of the size 1.
        self.assertEqual(frac(height_bounds((0, -1, 0), ((0, 1), (0, 1)), 1)[1]), (1 + Fraction(4, 3)) / 4)

    def test_great_points(self):
        curve = (0, -25, 0)
        P = multiple(curve, 12, ((-4, 1), (6, 1)))
        low, high = right(height_bounds(curve, P, 6))
        one = right(height_bounds(curve, ((-4, 1), (6, 1)), 6))
        self.assertTrue(144 * one[0] <= high and low <= 144 * one[1])
        self.assertTrue(high - low < Fraction(1, 100))


class PairsTest(unittest.TestCase):
    def test_by_the_words(self):
        rng = random.Random(5)
        for curve in CURVES:
            box = box_of(curve, 60)
            for n in (0, 1, 2, 4):
                P, Q = rng.choice(box), rng.choice(box)
                self.assertEqual(pairing_bounds(curve, P, Q, n), told(pairing_slowly(curve, P, Q, n)))
                self.assertEqual(pairing_bounds(curve, P, P, n), told(pairing_slowly(curve, P, P, n)))

    def test_determinants_by_the_words(self):
        rng = random.Random(6)
        for curve in CURVES + ((0, -7, 10), (0, 0, 225)):
            box = box_of(curve, 60)
            for n in (0, 1, 3):
                P, Q, S = (rng.choice(box) for _ in range(3))
                d11, d22, d33 = (bounds_slowly(curve, T, n) for T in (P, Q, S))
                self.assertEqual(determinant_bounds(curve, (P,), n), told(d11))
                d12, d13, d23 = (pairing_slowly(curve, *two, n) for two in ((P, Q), (P, S), (Q, S)))
                two = less(times(d11, d22), times(d12, d12))
                self.assertEqual(determinant_bounds(curve, (P, Q), n), told(two))
                first = times(d11, less(times(d22, d33), times(d23, d23)))
                second = times(d12, less(times(d12, d33), times(d23, d13)))
                third = times(d13, less(times(d12, d23), times(d22, d13)))
                self.assertEqual(determinant_bounds(curve, (P, Q, S), n), told(plus(less(first, second), third)))

    def test_independent_and_dependent_points(self):
        curve = (0, 0, 17)
        P, Q = ((-2, 1), (3, 1)), ((-1, 1), (4, 1))
        self.assertGreater(frac(determinant_bounds(curve, (P, Q), 5)[0]), 0)
        self.assertLessEqual(frac(determinant_bounds(curve, (P, added(curve, P, P)), 6)[0]), 0)
        low, high = right(determinant_bounds(curve, (P, Q, added(curve, P, Q)), 6))
        self.assertTrue(low <= 0 <= high)
        # A curve of rank 3.
        curve = (0, -82, 0)
        points = [P for P in box_of(curve, 200) if P and order_of(curve, P) is None]
        self.assertTrue(any(
            frac(determinant_bounds(curve, (points[0], Q, S), 5)[0]) > 0 for Q in points for S in points[:6]))


class LeastHeightTest(unittest.TestCase):
    def test_by_the_words(self):
        for curve in CURVES:
            K = constants_slowly(curve)[0]
            for B in (1, 2, 30, 300):
                for n in (0, 2, 4):
                    lows = [bounds_slowly(curve, P, n)[0] for P in box_of(curve, B) if order_of(curve, P) is None]
                    lows.append(B.bit_length() - 1 - Fraction(K.bit_length(), 3))
                    self.assertEqual(least_height(curve, B, n), pair(min(lows)), (curve, B, n))

    def test_examples(self):
        # Below 0 for small boxes; the height of (3, 5) for a great one.
        self.assertEqual(least_height((0, 0, -2), 1, 3), (-10, 3))
        P = ((3, 1), (5, 1))
        self.assertEqual(least_height((0, 0, -2), 4096, 3), height_bounds((0, 0, -2), P, 3)[0])
        self.assertGreater(frac(least_height((0, 0, -2), 4096, 3)), 0)
        # Points of finite order do not count.
        self.assertGreater(frac(least_height((0, -1, 0), 8192, 4)), 0)

    def test_example_of_a_whole_group(self):
        # P = (3, 5): an index I has I I at most HIGH / mu, which is below 4.
        curve, P = (0, 0, -2), ((3, 1), (5, 1))
        self.assertEqual(size_of(added(curve, P, P)), 129)
        self.assertEqual(right(height_bounds(curve, P, 1)), ((7 - Fraction(10, 3)) / 4, (8 + Fraction(5, 3)) / 4))
        high = frac(determinant_bounds(curve, (P,), 3)[1])
        self.assertTrue(1 <= high / frac(least_height(curve, 4096, 3)) < 4)

    def test_bad_numbers(self):
        for B in (0, -5, 8193, 10 ** 40):
            with self.assertRaises(BadNumber) as caught:
                least_height((0, 0, -2), B, 3)
            self.assertEqual(caught.exception.number, B)


if __name__ == "__main__":
    unittest.main()
