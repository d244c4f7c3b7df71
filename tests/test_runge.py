import random
import unittest
from itertools import permutations
from math import isqrt

from pointsum.runge import cube_sums, line_products, quartic_points


def quartic_slowly(a, b, c, d, low, high):
    found = []
    for x in range(low, high + 1):
        value = x ** 4 + a * x ** 3 + b * x * x + c * x + d
        if value >= 0 and isqrt(value) ** 2 == value:
            found += [(x, y) for y in sorted({-isqrt(value), isqrt(value)})]
    return tuple(found)


def limits(a, b, c, d):
    """Between which x the fact leaves anything: |R| at least 2 |W| - 1; looked at one by one from far outside."""
    W = (8, 4 * a, 4 * b - a * a)
    r1, r0 = 64 * c - 8 * a * W[2], 64 * d - W[2] ** 2
    far = 100 + 4 * abs(a) + abs(r1) + isqrt(abs(r0) + abs(W[2]) + 1)
    while far > 100 and not any(abs(r1 * x + r0) >= 2 * abs(8 * x * x + 4 * a * x + W[2]) - 1 for x in (-far, far)):
        far -= 1 if far < 2000 else far // 1000
    return -far - far // 100 - 5, far + far // 100 + 5


class QuarticTest(unittest.TestCase):
    def test_examples(self):
        right = ("all", ((-2, -3), (-2, 3), (0, -1), (0, 1), (2, -5), (2, 5)))
        self.assertEqual(quartic_points(0, 0, 4, 1), right)
        self.assertEqual(quartic_points(2, 3, 2, 1), ("square", (8, 8, 8)))

    def test_by_trying(self):
        rng = random.Random(1)
        many = 0
        for _ in range(250):
            a, b, c, d = rng.randint(-20, 20), rng.randint(-60, 60), rng.randint(-60, 60), rng.randint(-400, 400)
            word, told = quartic_points(a, b, c, d)
            if word == "all":
                self.assertEqual(told, quartic_slowly(a, b, c, d, *limits(a, b, c, d)), (a, b, c, d))
                many += len(told)
        self.assertGreater(many, 100)

    def test_through_points(self):
        # d such that some x gives a square.
        rng = random.Random(2)
        for _ in range(60):
            a, b, c = rng.randint(-20, 20), rng.randint(-1000, 1000), rng.randint(-1000, 1000)
            x, y = rng.randint(-30, 30), rng.randint(0, 900)
            d = y * y - x ** 4 - a * x ** 3 - b * x * x - c * x
            word, told = quartic_points(a, b, c, d)
            if word == "all":
                self.assertIn((x, y), told)
                self.assertIn((x, -y), told)
                self.assertEqual(told, tuple(sorted(set(told))))
                inside = tuple(pair for pair in told if abs(pair[0]) <= 300)
                self.assertEqual(inside, quartic_slowly(a, b, c, d, -300, 300))

    def test_squares(self):
        # (x x + k x + m) ** 2; R is 0 for no others.
        for k in range(-10, 11):
            for m in range(-6, 7):
                told = quartic_points(2 * k, k * k + 2 * m, 2 * k * m, m * m)
                self.assertEqual(told, ("square", (8, 8 * k, 8 * m)))
        # W = 8 x x + 4 x + 3 is odd throughout, or 8 divides W + 4: R is not 0.
        self.assertEqual(quartic_points(1, 1, 1, 1), ("all", quartic_slowly(1, 1, 1, 1, -300, 300)))
        self.assertEqual(quartic_points(2, 2, 1, 0), ("all", quartic_slowly(2, 2, 1, 0, -300, 300)))
        self.assertEqual(quartic_points(4, 4, 0, 0), ("square", (8, 16, 0)))
        self.assertEqual(quartic_points(-20, 100, 0, 0), ("square", (8, -80, 0)))

    def test_roots_of_the_rest(self):
        # (x x + k) ** 2 + r (x - m) has y = x x + k at x = m, however great m is.
        for k, r, m in ((0, 1, 5), (0, 1, 500), (3, -1, -777), (0, 2, 5000), (-2, 1, 90000), (1, -1, 250000), (0, 1, 10 ** 6)):
            word, told = quartic_points(0, 2 * k, r, k * k - r * m)
            self.assertEqual(word, "all")
            self.assertIn((m, m * m + k), told)
            self.assertIn((m, -m * m - k), told)
            self.assertEqual(told, tuple(sorted(set(told))))

    def test_points_with_y_nought(self):
        # x x (x x - 1) ..: (x - 1) (x - 2) (x - 3) (x - 4).
        self.assertEqual(quartic_points(-10, 35, -50, 24)[1], quartic_slowly(-10, 35, -50, 24, -300, 300))
        self.assertTrue({(1, 0), (2, 0), (3, 0), (4, 0)} <= set(quartic_points(-10, 35, -50, 24)[1]))
        self.assertEqual(quartic_points(0, 0, 0, -1), ("all", ((-1, 0), (1, 0))))
        self.assertEqual(quartic_points(0, 0, 0, 2), ("all", ()))

    def test_far_ones(self):
        for a, b, c, d in ((20, -1000, 1000, 10 ** 6), (-20, -1000, -1000, 10 ** 6), (20, 1000, 1000, -10 ** 6), (19, 997, -999, 999983)):
            word, told = quartic_points(a, b, c, d)
            self.assertEqual(word, "all")
            self.assertEqual(tuple(pair for pair in told if abs(pair[0]) <= 60000), quartic_slowly(a, b, c, d, -60000, 60000))


class CubesTest(unittest.TestCase):
    def test_example(self):
        self.assertEqual(cube_sums(1729), ((1, 12), (9, 10), (10, 9), (12, 1)))

    def test_small_numbers(self):
        # x x - x y + y y is at least 3 / 4 of each square, and the sum at least 1.
        most = 45
        right = {}
        for x in range(-most, most + 1):
            for y in range(-most, most + 1):
                right.setdefault(x ** 3 + y ** 3, []).append((x, y))
        for n in range(-1500, 1501):
            if n:
                self.assertEqual(cube_sums(n), tuple(sorted(right.get(n, []))), n)

    def test_great_numbers(self):
        self.assertEqual(cube_sums(10 ** 12), ((0, 10000), (10000, 0)))
        self.assertEqual(cube_sums(-10 ** 12), ((-10000, 0), (0, -10000)))
        rng = random.Random(3)
        for _ in range(25):
            x, y = rng.randint(-9000, 9000), rng.randint(-7000, 7000)
            n = x ** 3 + y ** 3
            if n:
                told = cube_sums(n)
                self.assertTrue({(x, y), (y, x)} <= set(told))
                self.assertEqual(told, tuple(sorted(set(told))))
                self.assertTrue(all(s ** 3 + t ** 3 == n for s, t in told))
                self.assertEqual(cube_sums(-n), tuple(sorted((-s, -t) for s, t in told)))
        # Great ones with a small sum.
        x = 577349
        self.assertIn((-x, x + 1), cube_sums((x + 1) ** 3 - x ** 3))

    def test_doubles(self):
        self.assertEqual(cube_sums(2), ((1, 1),))
        self.assertEqual(cube_sums(-16), ((-2, -2),))
        self.assertEqual(cube_sums(1), ((0, 1), (1, 0)))
        self.assertEqual(cube_sums(3), ())


class LinesTest(unittest.TestCase):
    def test_by_trying(self):
        rng = random.Random(4)
        many = 0
        for _ in range(60):
            p, q, r = rng.sample(range(-5, 6), 3)
            n = rng.choice((-1, 1)) * rng.choice((1, 2, 6, 8, 12, 30, 36, 60))
            right = []
            # |y| is at most 2 |n|, as y (q - p) = u - v with divisors u and v of n.
            for y in range(-2 * abs(n), 2 * abs(n) + 1):
                for u in range(-abs(n), abs(n) + 1):
                    x = u + p * y
                    if (x - p * y) * (x - q * y) * (x - r * y) == n:
                        right.append((x, y))
            self.assertEqual(line_products(p, q, r, n), tuple(sorted(right)), (p, q, r, n))
            many += len(right)
        self.assertGreater(many, 20)

    def test_order_of_the_lines(self):
        for n in (1, -1, 120, -720):
            for p, q, r in ((0, 1, 2), (1, -3, 4), (-7, 0, 1000)):
                told = {line_products(*lines, n) for lines in permutations((p, q, r))}
                self.assertEqual(len(told), 1)

    def test_one(self):
        # y = 0 and x x x = 1 among them.
        self.assertEqual(line_products(0, 1, -1, 1), ((1, 0),))
        self.assertEqual(line_products(0, 1, -1, -1), ((-1, 0),))
        # x (x - y) (x + y) = 6, all of which are near.
        right = tuple((x, y) for x in range(-50, 51) for y in range(-50, 51) if x * (x - y) * (x + y) == 6)
        self.assertEqual(line_products(0, 1, -1, 6), right)

    def test_great_numbers(self):
        told = line_products(-1000, 999, 1000, 720720)
        self.assertTrue(all((x + 1000 * y) * (x - 999 * y) * (x - 1000 * y) == 720720 for x, y in told))
        x, y = 1003, 1
        n = (x + 1000 * y) * (x - 999 * y) * (x - 1000 * y)
        self.assertIn((x, y), line_products(-1000, 999, 1000, n))
        self.assertIn((100, 0), line_products(1, 2, 3, 10 ** 6))
        self.assertIn((-100, 0), line_products(1, 2, 3, -10 ** 6))


if __name__ == "__main__":
    unittest.main()
