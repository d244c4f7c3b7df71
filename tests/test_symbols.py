import unittest

from pointsum.errors import OutOfRange, PointsumError
from pointsum.primes import factors, is_prime
from pointsum.symbols import is_local_square, root_mod, symbol

PRIMES = [p for p in range(2, 120) if is_prime(p)]


def told_symbol(a, n):
    """The product over the prime factors, by looking at all squares."""
    out = 1
    for p, e in factors(n):
        one = 0 if a % p == 0 else (1 if a % p in [x * x % p for x in range(p)] else -1)
        out *= one ** e
    return out


class SymbolTest(unittest.TestCase):
    def test_all_small_ones(self):
        for n in range(1, 120, 2):
            for a in range(-n - 3, 2 * n):
                self.assertEqual(symbol(a, n), told_symbol(a, n), (a, n))

    def test_examples_and_edges(self):
        self.assertEqual(symbol(7, 15), -1)
        self.assertEqual([symbol(a, 1) for a in (-1, 0, 1, 10 ** 30)], [1, 1, 1, 1])
        self.assertEqual([symbol(a, 9) for a in (0, 1, 2, 3, -1)], [0, 1, 1, 0, 1])

    def test_great_ones(self):
        p = 10 ** 20 - 11
        self.assertTrue(is_prime(p))
        for a in (2, 3, -7, 10 ** 25 + 1):
            self.assertEqual(symbol(a, p) % p, pow(a, (p - 1) // 2, p))
        self.assertEqual(symbol(3 ** 500, 5 ** 301 * 7), symbol(3 ** 500, 5) * symbol(3 ** 500, 7))

    def test_out_of_range(self):
        for n in (0, -1, -3, 2, 4, -2, 10 ** 30):
            with self.assertRaises(OutOfRange) as caught:
                symbol(3, n)
            self.assertEqual(caught.exception.number, n)
            self.assertIsInstance(caught.exception, PointsumError)


class RootModTest(unittest.TestCase):
    def test_all_small_ones(self):
        for p in PRIMES:
            for a in range(-p, 2 * p):
                roots = [r for r in range(p) if (r * r - a) % p == 0]
                self.assertEqual(root_mod(a, p), roots[0] if roots else None, (a, p))

    def test_great_ones(self):
        # p - 1 of 9 * 2 ** 63 + 1 has a great power of 2, that of 10 ** 20 - 11 a small one.
        for p in (10 ** 20 - 11, 10 ** 9 + 7, 9 * 2 ** 63 + 1):
            self.assertTrue(is_prime(p), p)
            seen = set()
            for a in list(range(-12, 12)) + [p // 3, p - 1, 5 * p + 4]:
                r = root_mod(a, p)
                euler = pow(a, (p - 1) // 2, p)
                seen.add(euler)
                if euler == p - 1:
                    self.assertIsNone(r)
                else:
                    self.assertEqual((r * r - a) % p, 0)
                    self.assertTrue(0 <= r <= p // 2)
            self.assertEqual(seen, {0, 1, p - 1})


class LocalSquareTest(unittest.TestCase):
    def test_by_roots_modulo_powers(self):
        # a has roots modulo each power exactly if it has them modulo p ** (valuation + 3).
        for p in (2, 3, 5, 7):
            for a in range(-150, 150):
                if a == 0:
                    continue
                k = 3
                while a % p ** (k - 2) == 0:
                    k += 1
                m = p ** k
                told = any((x * x - a) % m == 0 for x in range(m))
                self.assertIs(is_local_square(a, p), told, (a, p))

    def test_nought_has_roots_everywhere(self):
        for p in (2, 3, 10 ** 20 - 11):
            self.assertIs(is_local_square(0, p), True)

    def test_great_ones(self):
        p = 10 ** 20 - 11
        self.assertIs(is_local_square(4 * p * p, p), True)
        self.assertIs(is_local_square(4 * p, p), False)
        self.assertIs(is_local_square(17 * 4 ** 300, 2), True)
        self.assertIs(is_local_square(-7 * 4 ** 300, 2), True)
        self.assertIs(is_local_square(5 * 4 ** 300, 2), False)
        self.assertIs(is_local_square(2 * 4 ** 300, 2), False)


if __name__ == "__main__":
    unittest.main()
