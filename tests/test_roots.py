import random
import time
import unittest

from pointsum.roots import lifted, square_roots, three_forms, two_squares
from tests.right_values import is_prime_slowly

PRIMES = [p for p in range(2, 30) if is_prime_slowly(p)]


def valuation_of(n, p):
    e = 0
    while n % p == 0:
        n, e = n // p, e + 1
    return e


def classes_slowly(a, p, k):
    """The classes of [9]: a class is told if all in it are roots, and not all in the one around it."""
    roots = [x for x in range(p ** k) if (x * x - a) % p ** k == 0]
    out = []
    for j in range(k + 1):
        around = {}
        for x in roots:
            around.setdefault(x % p ** j, []).append(x)
        for r, members in around.items():
            if len(members) == p ** (k - j):
                out.append((r, j))
                roots = [x for x in roots if x % p ** j != r]
    return tuple(sorted(out))


class SquareRootsTest(unittest.TestCase):
    def test_examples(self):
        self.assertEqual(square_roots(4, 2, 4), ((2, 2),))
        self.assertEqual(square_roots(1, 2, 3), ((1, 1),))

    def test_all_small_ones(self):
        for p, most in ((2, 9), (3, 5), (5, 4), (7, 3), (11, 2), (13, 2)):
            for k in range(1, most + 1):
                for a in list(range(p ** k)) + [-1, -p, -p * p, p ** k + 1, 5 * p ** k]:
                    self.assertEqual(square_roots(a, p, k), classes_slowly(a, p, k), (a, p, k))

    def test_edges(self):
        self.assertEqual(square_roots(0, 2, 1), ((0, 1),))
        self.assertEqual(square_roots(0, 7, 60), ((0, 30),))
        self.assertEqual(square_roots(0, 7, 59), ((0, 30),))
        self.assertEqual(square_roots(7 ** 59, 7, 60), ())
        self.assertEqual(square_roots(7 ** 58 * 2, 7, 59), ((3 * 7 ** 29, 30), (4 * 7 ** 29, 30)))
        self.assertEqual(square_roots(7 ** 58 * 3, 7, 60), ())
        self.assertEqual(square_roots(-1, 2, 60), ())
        self.assertEqual(square_roots(1, 2, 4), ((1, 3), (7, 3)))

    def test_great_ones(self):
        rng = random.Random(1)
        for p in (2, 3, 999999937, 1000003):
            for k in (1, 2, 3, 4, 59, 60):
                m = p ** k
                for half in (0, 1, 2, 20, 29):
                    y = rng.randrange(1, m) | 1
                    y = y if y % p else y + 2
                    a = p ** (2 * half) * y * y
                    told = square_roots(a + 5 * m, p, k)
                    self.assertIsInstance(told, tuple)
                    self.assertEqual(list(told), sorted(told))
                    if 2 * half >= k:
                        self.assertEqual(told, ((0, (k + 1) // 2),))
                        continue
                    left = k - 2 * half
                    if p == 2 and left < 4:
                        self.assertEqual(told, ((2 ** half, half + 1),))
                        continue
                    self.assertEqual([j for _, j in told], [half + left - (p == 2)] * 2)
                    for r, j in told:
                        self.assertTrue(0 <= r < p ** j)
                        for x in (r, r + p ** j, r - 3 * p ** j):
                            self.assertEqual((x * x - a) % m, 0)
                    self.assertEqual((told[0][0] + told[1][0]) % p ** (j - half), 0)
                    self.assertTrue(any((p ** half * y - r) % p ** j == 0 for r, j in told))
        self.assertEqual(square_roots(2, 999999937, 60) == (), pow(2, 499999968, 999999937) != 1)


class LiftedTest(unittest.TestCase):
    def check(self, f, r, p, k):
        """Looks whether the answer is what [9] wants; tells whether there is one."""
        slope = sum(c * n * r ** (n - 1) for n, c in enumerate(f) if n)
        told = lifted(f, r, p, k)
        if slope == 0:
            self.assertIsNone(told)
            return False
        e = valuation_of(slope, p)
        if sum(c * r ** n for n, c in enumerate(f)) % p ** (2 * e + 1) != 0:
            self.assertIsNone(told)
            return False
        if k <= 2 * e:
            return False
        self.assertTrue(0 <= told < p ** (k - e))
        self.assertEqual((told - r) % p ** (e + 1), 0)
        self.assertEqual(sum(c * told ** n for n, c in enumerate(f)) % p ** k, 0)
        return True

    def test_small_ones(self):
        rng = random.Random(2)
        many = 0
        for _ in range(3000):
            p = rng.choice(PRIMES[:5])
            f = tuple(rng.randint(-20, 20) for _ in range(rng.randrange(1, 5))) + (rng.choice((-3, 1, 2, p)),)
            many += self.check(f, rng.randint(-30, 30), p, rng.randrange(1, 12))
        self.assertGreater(many, 200)

    def test_there_is_just_one(self):
        for f, p, k in (((-17, 0, 1), 2, 6), ((-7, 0, 1), 3, 5), ((0, -1, 0, 1), 2, 5), ((-18, 0, 1, 1), 3, 6)):
            for r in range(p ** 3):
                told = lifted(f, r, p, k)
                if told is None:
                    continue
                slope = sum(c * n * r ** (n - 1) for n, c in enumerate(f) if n)
                e = valuation_of(slope, p)
                if k > 2 * e:
                    near = [x for x in range(p ** (k - e)) if (x - r) % p ** (e + 1) == 0
                            and sum(c * x ** n for n, c in enumerate(f)) % p ** k == 0]
                    self.assertEqual(near, [told])

    def test_no_lifting(self):
        # A double root; roots that are not near enough; a slope of nought.
        self.assertIsNone(lifted((1, -2, 1), 1, 5, 3))
        self.assertIsNone(lifted((0, 0, 1), 0, 5, 3))
        self.assertIsNone(lifted((0, 0, 1), 5, 5, 60))
        self.assertIsNone(lifted((-5, 0, 1), 1, 2, 10))
        self.assertIsNone(lifted((-2, 0, 1), 1, 5, 10))
        self.assertIsNone(lifted((5,), 1, 5, 10))
        self.assertIsNone(lifted((), 1, 5, 10))
        self.assertEqual(lifted((-17, 0, 1), 1, 2, 3), 1)

    def test_with_a_valuation(self):
        # f'(r) = 2 r: e = 1 at 2; x x = 17 modulo 2 ** k is told modulo 2 ** (k - 1).
        for k in range(3, 61):
            x = lifted((-17, 0, 1), 1, 2, k)
            self.assertTrue(0 <= x < 2 ** (k - 1) and x % 4 == 1 and (x * x - 17) % 2 ** k == 0)
        f = (-3 ** 5 * 7, 3 ** 2, 1)
        self.assertTrue(self.check(f, 3 ** 3 * 8, 3, 60))

    def test_great_ones(self):
        p = 999999937
        root = next(r for r in range(2, 50) if pow(r, 3, p) != 1)
        f = (-(root ** 5) + 3 * p, 0, 0, 0, 0, 1)
        self.assertTrue(self.check(f, root, p, 60))
        self.assertTrue(self.check(f, root + 10 ** 30 * p, p, 60))
        self.assertTrue(self.check(f, root - 10 ** 30 * p, p, 1))
        start = time.perf_counter()
        f = tuple(range(1, 81)) + (1,)
        f = (f[0] - sum(f),) + f[1:]
        self.assertTrue(self.check(f, 1, p, 60))
        self.assertLess(time.perf_counter() - start, 20)


class SumsTest(unittest.TestCase):
    def test_small_ones(self):
        for n in range(600):
            pairs = [(s, t) for s in range(26) for t in range(s, 26)]
            self.assertEqual(two_squares(n), tuple(p for p in pairs if p[0] ** 2 + p[1] ** 2 == n))
            self.assertEqual(three_forms(n), tuple(p for p in pairs if p[0] ** 2 + p[0] * p[1] + p[1] ** 2 == n))

    def test_examples(self):
        self.assertEqual(two_squares(0), ((0, 0),))
        self.assertEqual(three_forms(0), ((0, 0),))
        self.assertEqual(two_squares(1009), ((15, 28),))
        self.assertEqual(three_forms(1009), ((8, 27),))
        self.assertEqual(two_squares(25), ((0, 5), (3, 4)))
        self.assertEqual(three_forms(49), ((0, 7), (3, 5)))

    def test_primes(self):
        for p in [p for p in range(2, 2000) if is_prime_slowly(p)]:
            self.assertEqual(len(two_squares(p)), int(p == 2 or p % 4 == 1))
            self.assertEqual(len(three_forms(p)), int(p == 3 or p % 3 == 1))

    def test_great_ones(self):
        start = time.perf_counter()
        for n in (10 ** 10, 5 * 13 * 17 * 29 * 37 * 41, 7 * 13 * 19 * 31 * 37 * 43, 9999999967):
            for told, form in ((two_squares(n), lambda s, t: s * s + t * t),
                               (three_forms(n), lambda s, t: s * s + s * t + t * t)):
                self.assertTrue(all(0 <= s <= t and form(s, t) == n for s, t in told))
                self.assertEqual(list(told), sorted(set(told)))
        self.assertEqual(len(two_squares(5 * 13 * 17 * 29 * 37 * 41)), 32)
        self.assertEqual(len(three_forms(7 * 13 * 19 * 31 * 37 * 43)), 32)
        self.assertEqual(two_squares(10 ** 10)[0], (0, 10 ** 5))
        self.assertLess(time.perf_counter() - start, 20)


if __name__ == "__main__":
    unittest.main()
