import random
import unittest
from fractions import Fraction

from pointsum.changes import are_alike, back, changes_between, led, led_point, then, whole_curve
from pointsum.curves import is_curve, numbers_of
from tests.right_values import frac, pair
from tests.test_curves import some_curve

ONE = ((1, 1), (0, 1), (0, 1), (0, 1))


def some_change(rng, whole=False):
    most = 1 if whole else 5
    u = pair(Fraction(rng.choice((-3, -2, -1, 1, 2, 5)), rng.randint(1, most)))
    return (u,) + tuple(pair(Fraction(rng.randint(-9, 9), rng.randint(1, most))) for _ in range(3))


def side_difference(curve, x, y):
    """Left side less right side of a curve of five fractions."""
    a1, a2, a3, a4, a6 = curve
    return y * y + a1 * x * y + a3 * y - (x ** 3 + a2 * x * x + a4 * x + a6)


class LedTest(unittest.TestCase):
    def test_by_putting_in(self):
        rng = random.Random(1)
        for _ in range(200):
            curve, change = some_curve(rng), some_change(rng)
            u, r, s, t = (frac(f) for f in change)
            told = [frac(f) for f in led(curve, change)]
            for _ in range(6):
                x, y = Fraction(rng.randint(-9, 9)), Fraction(rng.randint(-9, 9))
                beyond = side_difference(curve, u * u * x + r, u ** 3 * y + u * u * s * x + t)
                self.assertEqual(beyond, u ** 6 * side_difference(told, x, y))

    def test_numbers(self):
        rng = random.Random(2)
        for _ in range(100):
            curve, change = some_curve(rng), some_change(rng)
            b = [frac(f) for f in led(curve, change)]
            u = frac(change[0])
            b2, b4, b6 = b[0] ** 2 + 4 * b[1], 2 * b[3] + b[0] * b[2], b[2] ** 2 + 4 * b[4]
            _, _, _, _, c4, c6, _ = numbers_of(curve)
            self.assertEqual(u ** 4 * (b2 ** 2 - 24 * b4), c4)
            self.assertEqual(u ** 6 * (-b2 ** 3 + 36 * b2 * b4 - 216 * b6), c6)

    def test_examples(self):
        self.assertEqual(led((0, 0, 1, -1, 0), ONE), ((0, 1), (0, 1), (1, 1), (-1, 1), (0, 1)))
        told = led((0, 0, 1, -1, 0), ((1, 2), (0, 1), (0, 1), (-1, 2)))
        self.assertEqual(told, ((0, 1), (0, 1), (0, 1), (-16, 1), (16, 1)))
        self.assertEqual(led((0, 0, 0, 1, 0), ((2, 1), (0, 1), (0, 1), (0, 1)))[3], (1, 16))

    def test_plain_curves(self):
        rng = random.Random(3)
        for _ in range(50):
            change = some_change(rng)
            self.assertEqual(led((2, -3, 5), change), led((0, 2, 0, -3, 5), change))

    def test_whole_curve(self):
        self.assertEqual(whole_curve(((0, 1), (-1, 1), (10 ** 50, 1), (2, 1), (3, 1))), (0, -1, 10 ** 50, 2, 3))
        for at in range(5):
            fractions = [(1, 1)] * 5
            fractions[at] = (1, 2)
            self.assertIsNone(whole_curve(tuple(fractions)))


class ThenAndBackTest(unittest.TestCase):
    def test_one_and_then_the_other(self):
        rng = random.Random(4)
        for _ in range(200):
            curve, change, other = some_curve(rng), some_change(rng, True), some_change(rng)
            change = ((1, change[0][0]) if change[0][0] > 0 else (-1, -change[0][0]),) + change[1:]
            first = whole_curve(led(curve, change))
            self.assertIsNotNone(first)
            self.assertEqual(led(curve, then(change, other)), led(first, other))

    def test_group(self):
        rng = random.Random(5)
        for _ in range(200):
            first, second, third = (some_change(rng) for _ in range(3))
            self.assertEqual(then(first, back(first)), ONE)
            self.assertEqual(then(back(first), first), ONE)
            self.assertEqual(back(back(first)), first)
            self.assertEqual(then(then(first, second), third), then(first, then(second, third)))
            self.assertEqual(back(then(first, second)), then(back(second), back(first)))
            self.assertEqual(then(ONE, first), first)
            self.assertEqual(then(first, ONE), first)

    def test_numbers_of_then_and_back(self):
        change, other = ((2, 1), (1, 3), (-1, 1), (5, 1)), ((1, 2), (3, 1), (4, 1), (1, 7))
        self.assertEqual(then(change, other), ((1, 1), (37, 3), (7, 1), (-41, 7)))
        self.assertEqual(back(change), ((1, 2), (-1, 12), (1, 2), (-2, 3)))

    def test_undone(self):
        rng = random.Random(6)
        for _ in range(100):
            curve, change = some_curve(rng), some_change(rng, True)
            u = change[0][0]
            change = ((1, abs(u)) if u > 0 else (-1, abs(u)),) + change[1:]
            other = whole_curve(led(curve, change))
            self.assertEqual(whole_curve(led(other, back(change))), curve)
            self.assertTrue(are_alike(curve, other) and are_alike(other, curve))


class BetweenTest(unittest.TestCase):
    def check(self, curve, change):
        other = whole_curve(led(curve, change))
        told = changes_between(curve, other)
        self.assertEqual(len(told), 2)
        self.assertIn(change, told)
        self.assertGreater(told[0][0][0], 0)
        self.assertEqual(told[1][0], (-told[0][0][0], told[0][0][1]))
        for one in told:
            self.assertEqual(whole_curve(led(curve, one)), other)
        self.assertEqual({back(one) for one in told}, set(changes_between(other, curve)))
        self.assertIs(are_alike(curve, other), True)

    def test_random_ones(self):
        rng = random.Random(7)
        special = [(0, 0, 0, 0, 5), (0, 0, 1, 0, 0), (0, 0, 0, 0, -432), (0, 0, 0, 7, 0), (0, 0, 0, -4, 0), (1, 1, 1, 0, 0)]
        for at in range(300):
            curve = special[at % 6] if at % 2 and is_curve(special[at % 6]) else some_curve(rng)
            change = some_change(rng, True)
            u = change[0][0]
            self.check(curve, ((1 if u > 0 else -1, abs(u)),) + change[1:])

    def test_a_fraction_as_u(self):
        for a, b in ((81 * 5, 729 * 7), (0, 729 * 7), (81 * 5, 0)):
            for u in ((3, 2), (-3, 2), (3, 1), (1, 7)):
                self.check((0, 0, 0, a, b), (u, (0, 1), (0, 1), (0, 1)))
            # The same curve, moved, so that r, s and t are not 0.
            moved = whole_curve(led((0, 0, 0, a, b), ((1, 1), (2, 1), (-1, 1), (4, 1))))
            for u in ((3, 2), (-1, 2)):
                self.check(moved, then(back(((1, 1), (2, 1), (-1, 1), (4, 1))), (u, (0, 1), (0, 1), (0, 1))))

    def test_itself(self):
        for curve in ((0, 0, 1, -1, 0), (1, 1, 1, -2, 3), (0, 0, 0, 0, 1), (0, 0, 0, 1, 0)):
            a1, _, a3, _, _ = curve
            told = changes_between(curve, curve)
            self.assertEqual(told, (ONE, ((-1, 1), (0, 1), (-a1, 1), (-a3, 1))))
        plain = (2, 3, 4)
        self.assertEqual(changes_between(plain, (0, 2, 0, 3, 4)), (ONE, ((-1, 1), (0, 1), (0, 1), (0, 1))))

    def test_not_alike(self):
        for curve, other in (
            ((0, 0, 0, 1, 0), (0, 0, 0, -1, 0)), ((0, 0, 0, 1, 0), (0, 0, 0, 4, 0)), ((0, 0, 0, 0, 1), (0, 0, 0, 0, -1)),
            ((0, 0, 0, 0, 1), (0, 0, 0, 0, 8)), ((0, 0, 0, 0, 1), (0, 0, 0, 1, 0)), ((0, 0, 0, 1, 0), (0, 0, 0, 0, 1)),
            ((0, 0, 0, 1, 1), (0, 0, 0, 1, -1)), ((0, 0, 0, 1, 1), (0, 0, 0, 4, 8)), ((0, 0, 0, 1, 1), (0, 0, 0, 9, 27)),
            ((0, 0, 0, 1, 1), (0, 0, 0, 1, 0)), ((0, 0, 0, 1, 1), (0, 0, 0, 0, 1)), ((0, 0, 0, 1, 1), (0, 0, 0, 16, 16)),
            ((0, 0, 1, -1, 0), (0, -1, 1, -10, -20)), ((0, 0, 0, 1, 1), (0, 0, 0, 4, 2)),
        ):
            self.assertEqual(changes_between(curve, other), ())
            self.assertEqual(changes_between(other, curve), ())
            self.assertIs(are_alike(curve, other), False)
        self.assertIs(are_alike((0, 0, 0, 1, 0), (0, 0, 0, 16, 0)), True)
        self.assertIs(are_alike((0, 0, 0, 0, 1), (0, 0, 0, 0, 64)), True)
        self.assertIs(are_alike((0, 1, 0), (0, 16, 0)), True)

    def test_great_numbers(self):
        u = 10 ** 30 + 57
        for a, b in ((3, 5), (0, 5), (3, 0)):
            told = changes_between((0, 0, 0, a, b), (0, 0, 0, a * u ** 4, b * u ** 6))
            self.assertEqual(told[0], ((1, u), (0, 1), (0, 1), (0, 1)))


class LedPointTest(unittest.TestCase):
    def test_points(self):
        self.assertEqual(led_point((), ONE), ())
        self.assertEqual(led_point(((2, 1), (3, 1)), ONE), ((2, 1), (3, 1)))
        # 0, 0 of y y + y = x x x - x goes to 0, 4 of y y = x x x - 16 x + 16.
        self.assertEqual(led_point(((0, 1), (0, 1)), ((1, 2), (0, 1), (0, 1), (-1, 2))), ((0, 1), (4, 1)))
        rng = random.Random(8)
        for _ in range(200):
            change = some_change(rng)
            u, r, s, t = (frac(f) for f in change)
            x, y = Fraction(rng.randint(-9, 9), 4), Fraction(rng.randint(-9, 9), 8)
            start = (pair(u * u * x + r), pair(u ** 3 * y + u * u * s * x + t))
            self.assertEqual(led_point(start, change), (pair(x), pair(y)))
            self.assertEqual(led_point(led_point(start, change), back(change)), start)

    def test_points_stay_points(self):
        rng = random.Random(9)
        curve, points = (0, 0, 1, -1, 0), [(0, 0), (1, 0), (-1, -1), (2, -3), (6, 14)]
        for _ in range(60):
            change = some_change(rng)
            other = [frac(f) for f in led(curve, change)]
            for x, y in points:
                told = led_point(((x, 1), (y, 1)), change)
                self.assertEqual(side_difference(other, frac(told[0]), frac(told[1])), 0)


if __name__ == "__main__":
    unittest.main()
