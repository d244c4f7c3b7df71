import random
import unittest
from fractions import Fraction
from math import isqrt

from pointsum.basis import as_sum, index_bound, whole_group, whole_points
from pointsum.curves import plain_form
from pointsum.errors import WrongForm
from pointsum.finite import finite_basis, finite_part, order_of
from pointsum.heights import determinant_bounds, least_height
from pointsum.lists import rank_bounds
from pointsum.points import added, multiple
from pointsum.search import box_of
from pointsum.sums import sum_of_multiples
from tests.right_values import frac
from tests.test_lists import some_curve
from tests.test_saturation import GROUPS


def bound_slowly(curve, points, mu, n):
    """The index bound by the words, with Fractions."""
    r = len(points)
    most = frac(determinant_bounds(curve, points, n)[1]) / (Fraction(3, 4) ** (r * (r - 1) // 2) * frac(mu) ** r)
    index = isqrt(most.numerator // most.denominator)
    return max(index, 1)


class IndexTest(unittest.TestCase):
    def test_example(self):
        curve, P = (0, 0, -2), ((3, 1), (5, 1))
        self.assertEqual(index_bound(curve, (P,), least_height(curve, 4096, 3), 3), 1)

    def test_by_the_words(self):
        above = 0
        for curve, points in GROUPS:
            for mu in ((1, 100), (1, 3), (7, 5), (50, 1)):
                for n in (0, 3, 5):
                    for many in range(1, len(points) + 1):
                        told = index_bound(curve, points[:many], mu, n)
                        self.assertEqual(told, bound_slowly(curve, points[:many], mu, n))
                        above += told > 1
        self.assertGreater(above, 20)

    def test_one_at_least_and_exact_squares(self):
        curve, points = GROUPS[0]
        self.assertEqual(index_bound(curve, points, (10 ** 9, 1), 2), 1)
        high = determinant_bounds(curve, points, 2)[1]
        # I I = 25 just so, and just not.
        self.assertEqual(index_bound(curve, points, (high[0], 25 * high[1]) if high[0] % 5 else (high[0] // 5, 5 * high[1]), 2), 5)
        mu = frac(high) / 25 + Fraction(1, 10 ** 9)
        self.assertEqual(index_bound(curve, points, (mu.numerator, mu.denominator), 2), 4)


class WholeGroupTest(unittest.TestCase):
    def check(self, curve, group, B):
        """A group is of the told form, and makes all points of the box."""
        S, other, points = group
        self.assertEqual((order_of(curve, S), order_of(curve, other))[0] in (1, 2), True)
        self.assertEqual(order_of(curve, S) * order_of(curve, other), len(finite_part(curve)))
        for P in box_of(curve, B):
            i, j, numbers = as_sum(curve, group, P)
            self.assertEqual(sum_of_multiples(curve, (i, j, *numbers), (S, other, *points)), P)
            self.assertTrue(0 <= i < order_of(curve, S) and 0 <= j < order_of(curve, other))

    def test_known_groups(self):
        for curve, points in GROUPS:
            group = whole_group(curve, len(points), 8192, 5)
            self.assertIsInstance(group, tuple)
            self.assertEqual(group[:2], finite_basis(curve))
            self.assertEqual(len(group[2]), len(points))
            self.check(curve, group, 60)

    def test_rank_nought(self):
        for curve in ((0, -1, 0), (0, 0, 1), (0, 4, 0), plain_form((1, 0, 1, -19, 26))[0], (-15, 32, 256)):
            for B, n in ((1, 0), (8192, 6)):
                self.assertEqual(whole_group(curve, 0, B, n), (*finite_basis(curve), ()))
        # The rank is the caller's word.
        self.assertEqual(whole_group((0, 0, -2), 0, 1, 0), ((), (), ()))

    def test_example(self):
        curve, P = (0, 0, -2), ((3, 1), (5, 1))
        S, other, (Q,) = whole_group(curve, 1, 4096, 3)
        self.assertEqual((S, other), ((), ()))
        self.assertIn(Q, (P, multiple(curve, -1, P)))

    def test_none(self):
        # No points in the box, mu not above 0, or a rank that is too great.
        self.assertIsNone(whole_group((0, 0, -2), 1, 2, 6))
        self.assertIsNone(whole_group((0, 0, -2), 1, 10, 6))
        self.assertIsNone(whole_group((0, 0, -2), 2, 8192, 3))
        self.assertIsNone(whole_group((0, 0, 17), 3, 8192, 3))
        self.assertIsNone(whole_group((0, -1, 0), 1, 8192, 3))
        self.assertIsNone(whole_group((0, 0, -2), 1, 8192, 0))
        self.assertLessEqual(least_height((0, 0, -2), 8192, 0)[0], 0)

    def test_lower_rank_than_right(self):
        S, other, points = whole_group((0, 0, 17), 1, 8192, 4)
        self.assertEqual(len(points), 1)
        self.assertIsNone(order_of((0, 0, 17), points[0]))

    def test_tells_where_it_has_to(self):
        # By the words: independent points of the box, a least height above 0, and an index bound without great primes.
        rng = random.Random(1)
        told = 0
        for _ in range(60):
            curve = some_curve(rng, 25)
            low, high = rank_bounds(curve, 60)
            if low != high or not 0 < low <= 3:
                continue
            group = whole_group(curve, low, 8192, 5)
            mu = least_height(curve, 8192, 5)
            if mu[0] <= 0:
                self.assertIsNone(group)
            elif group is not None:
                told += 1
                self.check(curve, group, 30)
            else:
                points = [P for P in box_of(curve, 8192) if order_of(curve, P) is None][:1]
                self.assertTrue(points == [] or low > 1 or index_bound(curve, tuple(points), mu, 5) > 4)
        self.assertGreater(told, 10)


class WholePointsTest(unittest.TestCase):
    def test_as_whole_group(self):
        rng = random.Random(2)
        kinds = set()
        for curve in [curve for curve, _ in GROUPS if curve[2] == 0] + [some_curve(rng, 30) for _ in range(30)]:
            for B, n in ((100, 3), (8192, 4)):
                low, high = rank_bounds(curve, min(B, 200))
                told = whole_points(curve, B, n)
                kinds.add((low == high, told is None))
                if low != high or high > 3:
                    self.assertIsNone(told)
                else:
                    self.assertEqual(told, whole_group(curve, high, B, n))
        self.assertEqual(kinds, {(False, True), (True, True), (True, False)})

    def test_open_numbers(self):
        self.assertIsNone(whole_points((0, 17, 0), 8192, 5))

    def test_wrong_form(self):
        for curve in ((0, 0, -2), (1, 2, 3)):
            for B in (1, 300, 8192):
                self.assertRaises(WrongForm, whole_points, curve, B, 3)


class AsSumTest(unittest.TestCase):
    def test_all_numbers(self):
        rng = random.Random(3)
        for curve, points in GROUPS:
            basis = (*finite_basis(curve), points)
            orders = [order_of(curve, end) for end in basis[:2]]
            for most in (0, 1, 3, 12):
                for _ in range(3):
                    told = (rng.randrange(orders[0]), rng.randrange(orders[1]), tuple(rng.randint(-most, most) for _ in points))
                    P = sum_of_multiples(curve, (*told[:2], *told[2]), (*basis[:2], *points))
                    self.assertEqual(as_sum(curve, basis, P), told)

    def test_ends(self):
        for curve, points in GROUPS[:2] + GROUPS[4:]:
            basis = (*finite_basis(curve), points)
            for numbers in ((60,), (-60,), (0, 60), (-20, 0), (1, -30), (0, 0, -41), (2, -1, 20)):
                if len(numbers) == len(points):
                    P = sum_of_multiples(curve, numbers, points)
                    self.assertEqual(as_sum(curve, basis, P), (0, 0, numbers))

    def test_finite_order(self):
        for curve in ((0, -1, 0), (0, 0, 1), plain_form((1, 0, 1, -19, 26))[0], (-15, 32, 256), (0, 0, -2)):
            basis = (*finite_basis(curve), ())
            seen = set()
            for P in finite_part(curve):
                i, j, numbers = as_sum(curve, basis, P)
                self.assertEqual(numbers, ())
                self.assertEqual(added(curve, multiple(curve, i, basis[0]), multiple(curve, j, basis[1])), P)
                seen.add((i, j))
            self.assertEqual(len(seen), len(finite_part(curve)))

    def test_any_points_that_make_the_group(self):
        # Not the lowest ones: P and 7 P + Q.
        curve, (P, Q) = GROUPS[4]
        basis = ((), (), (P, added(curve, multiple(curve, 7, P), Q)))
        self.assertEqual(as_sum(curve, basis, Q), (0, 0, (-7, 1)))


if __name__ == "__main__":
    unittest.main()
