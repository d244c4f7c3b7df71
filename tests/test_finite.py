import random
import unittest

from pointsum.curves import five, is_plain, numbers_of, plain_form
from pointsum.errors import BadNumber
from pointsum.finite import count_bound, finite_basis, finite_form, finite_part, order_of
from pointsum.points import added, is_point, multiple
from pointsum.twomaps import beside
from tests.right_values import (
    is_prime_slowly, many_slowly, order_of_points, plus_slowly, right_point, told_point, whole_points_slowly,
)

# Curves of five numbers and the forms of their finite parts.
FORMS = (
    ((0, 0, 0, 0, -2), (1, 1)), ((0, 0, 1, -1, 0), (1, 1)), ((0, 0, 0, 1, 0), (1, 2)), ((0, 0, 0, 0, 4), (1, 3)),
    ((0, 0, 1, 0, 0), (1, 3)), ((0, 0, 0, 4, 0), (1, 4)), ((1, -1, 1, -1, 0), (1, 4)), ((0, -1, 1, 0, 0), (1, 5)),
    ((0, -1, 1, -10, -20), (1, 5)), ((0, 0, 0, 0, 1), (1, 6)), ((1, 0, 1, -1, 0), (1, 6)), ((1, -1, 1, -3, 3), (1, 7)),
    ((1, 1, 1, 35, -28), (1, 8)), ((1, -1, 1, -14, 29), (1, 9)), ((1, 0, 0, -45, 81), (1, 10)),
    ((1, -1, 1, -122, 1721), (1, 12)), ((0, 0, 0, -1, 0), (2, 2)), ((1, 1, 1, -10, -10), (2, 4)),
    ((1, 0, 1, -19, 26), (2, 6)), ((1, 0, 0, -1070, 7812), (2, 8)), ((0, 0, 0, -25, 0), (2, 2)),
)


def order_slowly(curve, point):
    """The order of a point with whole letters, by adding it up to 20 times; None if no sum is zero."""
    place = None
    for n in range(1, 21):
        place = plus_slowly(five(curve), place, right_point(point))
        if place is None:
            return n
    return None


def some_plain(rng, most):
    while True:
        curve = tuple(rng.randint(-most, most) for _ in range(3))
        if is_plain(curve):
            return curve


class OrderTest(unittest.TestCase):
    def test_small_curves(self):
        rng = random.Random(1)
        for _ in range(150):
            curve = some_plain(rng, 12)
            self.assertEqual(order_of(curve, ()), 1)
            for point in whole_points_slowly(five(curve), 40):
                self.assertEqual(order_of(curve, point), order_slowly(curve, point), (curve, point))

    def test_examples(self):
        told = [order_of((0, 0, 1), point) for point in finite_part((0, 0, 1))]
        self.assertEqual(told, [1, 2, 3, 3, 6, 6])
        self.assertIsNone(order_of((0, 0, -2), ((3, 1), (5, 1))))
        self.assertIsNone(order_of((0, 0, -2), ((129, 100), (-383, 1000))))
        self.assertIsNone(order_of((0, -25, 0), ((-4, 1), (6, 1))))
        self.assertEqual(order_of((0, 4, 0), ((2, 1), (4, 1))), 4)

    def test_whole_multiples_of_a_point_of_no_finite_order(self):
        # y y = x x x + 17 has many whole points, all of no finite order.
        for point in whole_points_slowly((0, 0, 0, 0, 17), 6000):
            self.assertIsNone(order_of((0, 0, 17), point))

    def test_great_points(self):
        great = multiple((0, -25, 0), 56, ((-4, 1), (6, 1)))
        self.assertIsNone(order_of((0, -25, 0), great))
        y = 10 ** 300 + 7
        self.assertIsNone(order_of((0, 0, y * y - 1), ((1, 1), (y, 1))))
        self.assertEqual(order_of((0, 0, y * y), ((0, 1), (y, 1))), 3)


class FinitePartTest(unittest.TestCase):
    def check(self, curve, form=None):
        part = finite_part(curve)
        self.assertEqual(part, order_of_points(set(part)))
        self.assertTrue(all(is_point(curve, point) for point in part))
        n1, n2 = finite_form(curve)
        self.assertEqual(len(part), n1 * n2)
        self.assertTrue(n1 in (1, 2) and n2 % n1 == 0)
        P, Q = finite_basis(curve)
        self.assertEqual((order_slowly(curve, P) if P else 1, order_slowly(curve, Q) if Q else 1), (n1, n2))
        full = five(curve)
        sums = [
            told_point(plus_slowly(full, many_slowly(full, i, right_point(P)), many_slowly(full, j, right_point(Q))))
            for i in range(n1) for j in range(n2)
        ]
        self.assertEqual(order_of_points(sums), part)
        if form is not None:
            self.assertEqual((n1, n2), form, curve)

    def test_examples(self):
        self.assertEqual(finite_part((0, 0, 1)), (
            (), ((-1, 1), (0, 1)), ((0, 1), (-1, 1)), ((0, 1), (1, 1)), ((2, 1), (-3, 1)), ((2, 1), (3, 1))))
        self.assertEqual(finite_form((0, 0, 1)), (1, 6))
        self.assertEqual(finite_part((0, -1, 0)), ((), ((-1, 1), (0, 1)), ((0, 1), (0, 1)), ((1, 1), (0, 1))))
        self.assertEqual(finite_form((0, -1, 0)), (2, 2))
        self.assertEqual(finite_part((0, 0, -2)), ((),))
        self.assertEqual(finite_form((0, 0, -2)), (1, 1))
        self.assertEqual(finite_basis((0, 0, -2)), ((), ()))
        self.assertEqual(finite_basis((0, 1, 0)), ((), ((0, 1), (0, 1))))

    def test_many_forms(self):
        for curve, form in FORMS:
            self.check(plain_form(curve)[0], form)
        for n in range(1, 30):
            self.check((0, -n * n, 0), (2, 2))

    def test_by_looking_at_all_whole_points(self):
        # A member has y = 0 or y y dividing D; so small curves have small members.
        rng = random.Random(2)
        forms = set()
        for at in range(260):
            curve = some_plain(rng, 3 if at % 2 else 9)
            d = abs(numbers_of(curve)[6] // 16)
            found = [()]
            for point in whole_points_slowly(five(curve), 150):
                y = point[1][0]
                if (y == 0 or d % (y * y) == 0) and order_slowly(curve, point) is not None:
                    found.append(point)
            self.assertEqual(finite_part(curve), order_of_points(found), curve)
            forms.add(finite_form(curve))
        self.assertTrue({(1, 1), (1, 2), (1, 3), (1, 4), (1, 6), (2, 2)} <= forms)

    def test_scaled_and_great_curves(self):
        for (curve, form), u in zip(FORMS, (2, 3, 10, 10 ** 9 + 7, 10 ** 40 + 1) * 5):
            a, b, c = plain_form(curve)[0]
            self.check((a * u ** 2, b * u ** 4, c * u ** 6), form)
            self.check((a + 3 * u, b + 2 * a * u + 3 * u * u, c + b * u + a * u * u + u ** 3), form)
        self.check((10000, 9999, -9998))
        self.check((-10000, 10000, 10000))
        self.check(beside(beside((0, -9216, 0))))
        self.check(plain_form((1000, -999, 1000, 10 ** 9, -10 ** 9))[0])

    def test_sums_stay(self):
        for curve, _ in FORMS:
            plain = plain_form(curve)[0]
            part = finite_part(plain)
            for P in part:
                for Q in part:
                    self.assertIn(added(plain, P, Q), part)


class CountBoundTest(unittest.TestCase):
    def test_counts(self):
        rng = random.Random(3)
        for _ in range(60):
            curve = some_plain(rng, 20)
            a, b, c = curve
            d = numbers_of(curve)[6]
            counts = {}
            for p in (3, 5, 7, 11, 13, 17):
                if d % p:
                    points = [1 for x in range(p) for y in range(p) if (y * y - x ** 3 - a * x * x - b * x - c) % p == 0]
                    counts[p] = 1 + len(points)
                    self.assertEqual(count_bound(curve, (p,)), counts[p])
            for p in counts:
                for q in counts:
                    told = count_bound(curve, (p, q))
                    self.assertEqual(told, max(k for k in range(1, 99) if counts[p] % k == 0 and counts[q] % k == 0))
            if counts:
                self.assertEqual(count_bound(curve, tuple(counts)) % len(finite_part(curve)), 0)

    def test_great_primes(self):
        self.assertEqual(count_bound((0, -1, 0), (9967, 9971 - 4)), 9968)
        self.assertEqual(count_bound((0, -1, 0), (9967, 3)), 4)
        self.assertEqual(count_bound((0, 0, 1), (9929,)), 9930)

    def test_bad_numbers(self):
        # The first wrong one is told; 2 and primes that divide D, numbers that are no primes or too great.
        for primes, bad in (
            ((2,), 2), ((3, 2, 4), 2), ((5, 9), 9), ((5, 7, 1), 1), ((0,), 0), ((-3, 2), -3), ((10007,), 10007),
            ((9973, 10009, 2), 10009), ((5, 10 ** 40), 10 ** 40), ((15, 10), 15), ((5, 9973, 9999), 9999),
        ):
            with self.assertRaises(BadNumber) as caught:
                count_bound((0, -1, 0), primes)
            self.assertEqual(caught.exception.number, bad)
        for curve, primes, bad in (((0, 0, 1), (5, 3), 3), ((0, -25, 0), (3, 7, 5, 2), 5), ((0, -16, 16), (37,), 37)):
            with self.assertRaises(BadNumber) as caught:
                count_bound(curve, primes)
            self.assertEqual(caught.exception.number, bad)
        self.assertTrue(is_prime_slowly(9973))
        for value in (True, None, "5", (5,)):
            with self.assertRaises(BadNumber) as caught:
                count_bound((0, -1, 0), (5, value))
            self.assertIs(caught.exception.number, value)


if __name__ == "__main__":
    unittest.main()
