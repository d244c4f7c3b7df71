import time
import unittest

from pointsum.primes import class_of, class_of_fraction, class_times, factors, is_prime, is_shown, shown
from tests.right_values import is_prime_slowly

# Odd numbers that look prime to the bases 2; 2, 3; .. ; the first to all primes up to 31.
LIARS = (2047, 1373653, 25326001, 3215031751, 2152302898747, 3474749660383, 341550071728321, 3825123056546413051)
PRIMES = (10 ** 20 - 11, 10 ** 20 - 27, 2 ** 61 - 1, 10 ** 9 + 7, 999983, 1000003, 9 * 2 ** 63 + 1)


class IsPrimeTest(unittest.TestCase):
    def test_all_small_ones(self):
        for n in range(6000):
            self.assertIs(is_prime(n), is_prime_slowly(n), n)

    def test_great_ones(self):
        for p in PRIMES:
            self.assertIs(is_prime(p), True)
        for n in LIARS + (10 ** 20, 10 ** 20 - 1, 9999999967 * 9999999929, (10 ** 9 + 7) ** 2, 561, 1729, 41041):
            self.assertIs(is_prime(n), False)


class FactorsTest(unittest.TestCase):
    def check(self, n):
        told = factors(n)
        product = 1
        for p, e in told:
            self.assertTrue(is_prime(p) and e >= 1)
            product *= p ** e
        self.assertEqual(product, n)
        self.assertIsInstance(told, tuple)
        self.assertEqual(list(told), sorted(set(told)))

    def test_small_ones(self):
        self.assertEqual(factors(1), ())
        self.assertEqual(factors(5040), ((2, 4), (3, 2), (5, 1), (7, 1)))
        self.assertEqual(factors(999983), ((999983, 1),))
        for n in range(1, 3000):
            self.check(n)

    def test_great_ones(self):
        self.assertEqual(factors(9999999967 * 9999999929), ((9999999929, 1), (9999999967, 1)))
        self.assertEqual(factors(9999999967 ** 2), ((9999999967, 2),))
        self.assertEqual(factors(2154433 ** 3), ((2154433, 3),) if is_prime(2154433) else factors(2154433 ** 3))
        self.assertEqual(factors(997 ** 2 * 1009 ** 3), ((997, 2), (1009, 3)))
        self.assertEqual(factors(1009 ** 6), ((1009, 6),))
        for p in PRIMES:
            self.assertEqual(factors(p), ((p, 1),))
        for n in list(range(10 ** 20 - 30, 10 ** 20 + 1)) + list(LIARS):
            self.check(n)

    def test_time(self):
        start = time.perf_counter()
        for p, q in ((9999999967, 9999999929), (9999999943, 9999999881), (10000000019, 9999999833)):
            self.assertEqual(factors(p * q), ((min(p, q), 1), (max(p, q), 1)))
        self.assertLess(time.perf_counter() - start, 20)


class ClassTest(unittest.TestCase):
    def test_by_its_meaning(self):
        for n in range(-400, 400):
            if n == 0:
                continue
            c = class_of(n)
            self.assertEqual(n % c, 0)
            self.assertIn(n // c, [s * s for s in range(1, 21)])
            self.assertTrue(all(c % (d * d) for d in range(2, 21)))

    def test_edges(self):
        self.assertEqual([class_of(n) for n in (1, -1, 4, -4, 8, -12, 10 ** 20)], [1, -1, 1, -1, 2, -3, 1])
        self.assertEqual(class_of(-(10 ** 20 - 11)), -(10 ** 20 - 11))
        self.assertEqual(class_of(2 * 9999999967 ** 2), 2)

    def test_fractions(self):
        self.assertEqual(class_of_fraction((-12, 5)), -15)
        self.assertEqual(class_of_fraction((1, 1)), 1)
        self.assertEqual(class_of_fraction((-1, 4)), -1)
        self.assertEqual(class_of_fraction((9999999967, 9999999929)), 9999999967 * 9999999929)
        self.assertEqual(class_of_fraction((9999999967, 10 ** 10)), 9999999967)

    def test_products(self):
        classes = [c for c in range(-60, 60) if c != 0 and class_of(c) == c]
        for c in classes:
            self.assertEqual(class_times(c, c), 1)
            for d in classes:
                self.assertEqual(class_times(c, d), class_of(c * d))
        p, q = 9999999967, 9999999929
        self.assertEqual(class_times(-p * q, 6 * p), -6 * q)
        self.assertEqual(class_times(10 ** 20 - 11, 10 ** 20 - 27), (10 ** 20 - 11) * (10 ** 20 - 27))


class ShownTest(unittest.TestCase):
    def test_small_ones(self):
        for n in range(3000):
            self.assertEqual(is_shown(n, shown(n)), "prime" if is_prime_slowly(n) else "not", n)

    def test_around_the_limit_of_small(self):
        for n in range(10 ** 6 - 60, 10 ** 6 + 200):
            self.assertEqual(is_shown(n, shown(n)), "prime" if is_prime_slowly(n) else "not", n)

    def test_great_ones(self):
        for n in PRIMES:
            self.assertEqual(is_shown(n, shown(n)), "prime")
        for n in LIARS + ((10 ** 9 + 7) ** 2, 9999999967 * 9999999929, 2 ** 66, 10 ** 20):
            self.assertEqual(is_shown(n, shown(n)), "not")
        for n in range(10 ** 20 - 100, 10 ** 20 + 1):
            self.assertEqual(is_shown(n, shown(n)), "prime" if is_prime(n) else "not")

    def test_equal_calls(self):
        self.assertEqual(shown(10 ** 20 - 11), shown(10 ** 20 - 11))


if __name__ == "__main__":
    unittest.main()
