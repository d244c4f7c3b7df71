import random
import unittest

from pointsum.changes import are_alike
from pointsum.curves import j_of, short_form
from pointsum.errors import BadNumber
from pointsum.primes import class_times
from pointsum.twists import twist, twist_between
from tests.test_curves import some_curve

FREE = [d for d in range(-40, 41) if d != 0 and all(d % (k * k) for k in range(2, 7))]


class TwistTest(unittest.TestCase):
    def test_examples(self):
        self.assertEqual(twist((0, -1, 0), 5), (-25, 0))
        self.assertEqual(twist((0, 0, 0, 0, 1), 2), (0, 8))
        self.assertEqual(twist((0, 0, 0, 1, 1), -1), (1, -1))
        self.assertEqual(twist((0, 0, 1, -1, 0), 1), (-16, 16))
        # The powers that come by twisting are divided out: 2 twice is 1.
        self.assertEqual(twist((0, 0, 0, 4, 8), 2), (1, 1))
        self.assertEqual(twist((0, 0, 0, 0, 8), 2), (0, 1))

    def test_by_its_meaning(self):
        rng = random.Random(1)
        for _ in range(60):
            curve = some_curve(rng, 3, 50)
            a, b = short_form(curve)
            for d in rng.sample(FREE, 8) + [1, -1]:
                c, e = twist(curve, d)
                self.assertTrue(are_alike((0, 0, 0, c, e), (0, 0, 0, d * d * a, d ** 3 * b)))
                self.assertEqual(short_form((0, 0, 0, c, e)), (c, e))
                self.assertEqual(j_of((0, 0, 0, c, e)), j_of(curve))

    def test_twist_of_the_twist(self):
        rng = random.Random(2)
        for _ in range(60):
            curve = some_curve(rng, 3, 50)
            d, e = rng.choice(FREE), rng.choice(FREE)
            self.assertEqual(twist((0, 0, 0) + twist(curve, e), d), twist(curve, class_times(d, e)))
            self.assertEqual(twist(curve, 1), short_form(curve))

    def test_plain_curves(self):
        self.assertEqual(twist((1, 2, 5), -6), twist((0, 1, 0, 2, 5), -6))

    def test_great_ones(self):
        for curve in ((0, 0, 1, -1, 0), (1000, -999, 1000, 10 ** 9, -10 ** 9), (0, 0, 0, 0, 7), (0, 0, 0, 7, 0)):
            for d in (9973, -9973, 9998, -9997, 2310, -2310):
                other = (0, 0, 0) + twist(curve, d)
                self.assertEqual((0, 0, 0) + twist(other, d), (0, 0, 0) + short_form(curve))

    def test_bad_numbers(self):
        for d in (0, 4, -4, 8, 9, -9, 12, 18, -50, 9604, 10000, -10000):
            with self.assertRaises(BadNumber) as caught:
                twist((0, 0, 1, -1, 0), d)
            self.assertEqual(caught.exception.number, d)


class BetweenTest(unittest.TestCase):
    def test_general_curves(self):
        rng = random.Random(3)
        for _ in range(60):
            curve = some_curve(rng, 3, 50)
            if 0 in short_form(curve):
                continue
            for d in rng.sample(FREE, 6) + [9973, -9997, 2310]:
                other = (0, 0, 0) + twist(curve, d)
                self.assertEqual(twist_between(curve, other), d)
                self.assertEqual(twist_between(other, curve), d)

    def test_b_is_0(self):
        # d and - d make the same twist: the one above 0 is told.
        for a in (1, -1, 2, 5, -7, 4):
            for d in FREE + [9973, -9973]:
                other = (0, 0, 0) + twist((0, 0, 0, a, 0), d)
                self.assertEqual(twist_between((0, 0, 0, a, 0), other), abs(d))
        self.assertIsNone(twist_between((0, 0, 0, 1, 0), (0, 0, 0, -1, 0)))
        self.assertIsNone(twist_between((0, 0, 0, 1, 0), (0, 0, 0, 2, 0)))
        self.assertEqual(twist_between((0, 0, 0, 1, 0), (0, 0, 0, 4, 0)), 2)
        self.assertEqual(twist_between((0, 0, 0, -1, 0), (0, 0, 0, -1, 0)), 1)
        # x x x - 4 x is the twist by 2 of x x x - x.
        self.assertEqual(twist_between((0, -1, 0), (0, -4, 0)), 2)

    def test_a_is_0(self):
        for b in (1, -1, 2, 16, -27):
            for d in FREE + [9973, -9973]:
                other = (0, 0, 0) + twist((0, 0, 0, 0, b), d)
                self.assertEqual(twist_between((0, 0, 0, 0, b), other), d)
        self.assertIsNone(twist_between((0, 0, 0, 0, 1), (0, 0, 0, 0, 2)))
        self.assertIsNone(twist_between((0, 0, 0, 0, 1), (0, 0, 0, 0, 4)))
        self.assertEqual(twist_between((0, 0, 0, 0, 1), (0, 0, 0, 0, -1)), -1)
        self.assertEqual(twist_between((0, 0, 0, 0, 1), (0, 0, 0, 0, 27)), 3)
        self.assertEqual(twist_between((0, 0, 0, 0, 1), (0, 0, 0, 0, -27)), -3)

    def test_itself_and_alike_ones(self):
        rng = random.Random(4)
        for _ in range(30):
            curve = some_curve(rng, 3, 50)
            a, b = short_form(curve)
            self.assertEqual(twist_between(curve, curve), 1)
            self.assertEqual(twist_between(curve, (0, 0, 0, a * 5 ** 4, b * 5 ** 6)), 1)

    def test_none(self):
        self.assertIsNone(twist_between((0, 0, 1, -1, 0), (0, -1, 1, -10, -20)))
        self.assertIsNone(twist_between((0, 0, 0, 0, 1), (0, 0, 0, 1, 0)))
        self.assertIsNone(twist_between((0, 0, 0, 1, 0), (0, 0, 0, 0, 1)))
        self.assertIsNone(twist_between((0, 0, 0, 1, 1), (0, 0, 0, 0, 1)))
        self.assertIsNone(twist_between((0, 0, 0, 1, 1), (0, 0, 0, 1, 0)))

    def test_beyond_the_limit(self):
        for d in (10007, -10007, 10005, 10001, 73 * 137 * 2, 2 * 5003 * 5, 10009 * 10007, 101 * 103):
            for a, b in ((1, 1), (-16, 16), (0, 5), (3, 0)):
                self.assertIsNone(twist_between((0, 0, 0, a, b), (0, 0, 0, a * d * d, b * d ** 3)), (d, a, b))
        self.assertEqual(twist_between((0, 0, 0, 1, 1), (0, 0, 0, 9998 ** 2, 9998 ** 3)), 9998)
        self.assertEqual(twist_between((0, 0, 0, 1, 1), (0, 0, 0, 9998 ** 2, -9998 ** 3)), -9998)
        self.assertEqual(twist_between((0, 0, 0, 3, 0), (0, 0, 0, 3 * 9999 ** 2, 0)), 1111)


if __name__ == "__main__":
    unittest.main()
