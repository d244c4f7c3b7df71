import unittest

from pointsum.modular import inverse_mod, power_mod
from pointsum.whole import (
    common, exact_root, is_square, is_whole, lowest, odd_part, power, root, root_of, valuation,
)


class WholeTest(unittest.TestCase):
    def test_root(self):
        self.assertEqual([root(n) for n in range(10)], [0, 1, 1, 1, 2, 2, 2, 2, 2, 3])
        for r in (10 ** 20 + 7, 3 ** 900):
            self.assertEqual([root(r * r - 1), root(r * r), root(r * r + 2 * r)], [r - 1, r, r])
            self.assertEqual(root(r * r + 2 * r + 1), r + 1)

    def test_is_square(self):
        for n in range(-50, 200):
            self.assertIs(is_square(n), n in [k * k for k in range(15)], n)
        great = 7 ** 700
        self.assertIs(is_square(great * great), True)
        self.assertIs(is_square(great * great + 1), False)
        self.assertIs(is_square(-great * great), False)

    def test_valuation(self):
        self.assertEqual([valuation(n, 2) for n in (1, 2, 12, -8, 7, 3 * 2 ** 70)], [0, 1, 2, 3, 0, 70])
        self.assertEqual([valuation(n, 10) for n in (5, 10, -1000, 2 ** 9 * 5 ** 4)], [0, 1, 3, 4])
        self.assertEqual(valuation(-(10 ** 9 + 7) ** 5 * 6, 10 ** 9 + 7), 5)

    def test_odd_part(self):
        self.assertEqual([odd_part(n) for n in (1, 2, 12, 7, -8, 5 << 70)],
                         [(0, 1), (1, 1), (2, 3), (0, 7), (3, -1), (70, 5)])

    def test_common(self):
        self.assertEqual(common(0, 0), 0)
        self.assertEqual(common(0, -5), 5)
        self.assertEqual(common(-12, 18), 6)
        self.assertEqual(common(-7, -1), 1)
        self.assertEqual(common(6 * 10 ** 50, 4 * 10 ** 49), 4 * 10 ** 49)

    def test_is_whole(self):
        for value in (0, -1, 10 ** 50):
            self.assertIs(is_whole(value), True)
        for value in (True, False, None, "1", (1,), [1], 1.0):
            self.assertIs(is_whole(value), False)

    def test_powers_and_roots(self):
        for a in (-3, 0, 1, 7):
            for e in range(12):
                self.assertEqual(power(a, e), a ** e)
        for k in range(1, 9):
            for n in list(range(70)) + [10 ** 40, 10 ** 40 - 1, 2 ** 240]:
                r = root_of(n, k)
                self.assertTrue(r ** k <= n < (r + 1) ** k, (n, k))
        self.assertEqual([exact_root(n, 3) for n in (-27, -26, 0, 1, 64, 65)], [-3, None, 0, 1, 4, None])
        self.assertEqual([exact_root(n, 4) for n in (-16, 0, 1, 16, 17)], [None, 0, 1, 2, None])

    def test_lowest(self):
        self.assertEqual(lowest(6, -4), (-3, 2))
        self.assertEqual(lowest(0, -9), (0, 1))
        self.assertEqual(lowest(-10, -5), (2, 1))

    def test_modulo(self):
        for m in (1, 2, 9, 10 ** 12 + 39):
            for a in (-5, 0, 1, 6, 10 ** 13):
                for e in (0, 1, 2, 17, 10 ** 6):
                    self.assertEqual(power_mod(a, e, m), pow(a, e, m))
        for a in (1, 2, -3, 10 ** 9):
            self.assertEqual(inverse_mod(a, 10 ** 12 + 39), pow(a, -1, 10 ** 12 + 39))
        self.assertEqual(inverse_mod(5, 9), 2)


if __name__ == "__main__":
    unittest.main()
