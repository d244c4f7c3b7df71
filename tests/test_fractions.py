import unittest
from fractions import Fraction
from math import gcd

from pointsum.fractions import fractions_to, height, is_below, less, over, plus, root_of_fraction, times
from tests.right_values import frac, pair

SOME = sorted({Fraction(n, d) for n in range(-7, 8) for d in range(1, 7)} | {Fraction(10 ** 40 + 1, 10 ** 40 - 3)})


class ReckoningTest(unittest.TestCase):
    def test_all_pairs(self):
        for f in SOME:
            for g in SOME:
                self.assertEqual(plus(pair(f), pair(g)), pair(f + g))
                self.assertEqual(less(pair(f), pair(g)), pair(f - g))
                self.assertEqual(times(pair(f), pair(g)), pair(f * g))
                self.assertIs(is_below(pair(f), pair(g)), f < g)
                if g != 0:
                    self.assertEqual(over(pair(f), pair(g)), pair(f / g))

    def test_lowest_terms(self):
        self.assertEqual(plus((1, 2), (-1, 2)), (0, 1))
        self.assertEqual(plus((1, 6), (1, 3)), (1, 2))
        self.assertEqual(over((2, 3), (-4, 9)), (-3, 2))
        self.assertEqual(over((0, 1), (-4, 9)), (0, 1))
        self.assertEqual(times((2, 3), (3, 2)), (1, 1))

    def test_roots(self):
        for f, k, want in (((4, 9), 2, (2, 3)), ((-4, 9), 2, None), ((-8, 27), 3, (-2, 3)), ((4, 3), 2, None),
                           ((3, 4), 2, None), ((0, 1), 4, (0, 1)), ((64, 729), 6, (2, 3))):
            self.assertEqual(root_of_fraction(f, k), want)

    def test_height(self):
        for f, want in (((0, 1), 1), ((-7, 3), 7), ((3, 7), 7), ((-1, 1), 1), ((5, 1), 5)):
            self.assertEqual(height(f), want)


class FractionsToTest(unittest.TestCase):
    def test_small_ones(self):
        self.assertEqual(fractions_to(1), ((-1, 1), (0, 1), (1, 1)))
        self.assertEqual(fractions_to(2), ((-2, 1), (-1, 1), (-1, 2), (0, 1), (1, 2), (1, 1), (2, 1)))
        for bound in range(1, 31):
            want = sorted({Fraction(n, d) for n in range(-bound, bound + 1) for d in range(1, bound + 1)})
            self.assertEqual(fractions_to(bound), tuple(pair(f) for f in want), bound)

    def test_their_number(self):
        total = 0
        for bound in range(1, 201):
            total += sum(gcd(j, bound) == 1 for j in range(1, bound + 1))
            if bound % 40 == 0:
                told = fractions_to(bound)
                self.assertEqual(len(told), 4 * total - 1)
                self.assertTrue(all(frac(f) < frac(g) for f, g in zip(told, told[1:])))
                self.assertTrue(all(height(f) <= bound for f in told))


if __name__ == "__main__":
    unittest.main()
