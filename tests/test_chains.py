import random
import unittest

from pointsum.chains import chain, count_of, counts_told, length_of, times_mod
from pointsum.primes import is_prime, is_shown
from tests import test_certificates
from tests.right_values import GREAT, GREAT_CERT, OTHER_CERT, SMALL, is_prime_slowly, points_slowly, times_slowly


class TimesModTest(unittest.TestCase):
    def test_by_the_words(self):
        seen = set()
        walks = test_certificates.WalkTest()
        for n in (5, 7, 25, 35, 55, 77, 143, 1001):
            rng = random.Random(n)
            for _ in range(40):
                a, x, y = rng.randrange(n), rng.randrange(n), rng.randrange(n)
                b = (y * y - x ** 3 - a * x) % n
                for k in list(range(13)) + [rng.randrange(10 ** 5)]:
                    told = times_mod(n, (a, b), (x, y), k)
                    self.assertEqual(told, walks.walked(n, a, (x, y), k), (n, a, x, y, k))
                    seen.add(told if told[0] == "broken" else told[0])
        self.assertTrue({"point", ("broken", 5), ("broken", 7), ("broken", 11)} <= seen)

    def test_nought_and_one(self):
        for n in (5, 35, 10 ** 20 + 39):
            self.assertEqual(times_mod(n, (1, 1), (0, 1), 0), ("point", ()))
            self.assertEqual(times_mod(n, (1, 1), (0, 1), 1), ("point", (0, 1)))
            self.assertEqual(times_mod(n, (1, 1), (), 0), ("point", ()))
            self.assertEqual(times_mod(n, (1, 1), (), 7), ("point", ()))

    def test_points_of_order_two(self):
        # Also modulo numbers that are no primes: equal points with y = 0 make O.
        for n in (7, 35, 49, 1001):
            for k in range(6):
                self.assertEqual(times_mod(n, (1, 0), (0, 0), k), ("point", (0, 0) if k % 2 else ()))

    def test_breaks(self):
        # 2 y = 10 has 5 with 35 in common, across is 7 in 35.
        self.assertEqual(times_mod(35, (0, 24), (1, 5), 2), ("broken", 5))
        self.assertEqual(times_mod(35, (0, 24), (1, 5), 1), ("point", (1, 5)))
        seen = {times_mod(35, (a, (y * y - x ** 3 - a * x) % 35), (x, y), k)
                for a in range(35) for x in range(0, 35, 4) for y in range(35) for k in (2, 3, 5)}
        self.assertIn(("broken", None), seen)
        self.assertIn(("broken", 7), seen)

    def test_the_first_break_is_told(self):
        # 4 P breaks where 2 P does, 6 P where 3 P does.
        rng = random.Random(1)
        for _ in range(300):
            n = rng.choice((35, 55, 77, 1001))
            a, x, y = rng.randrange(n), rng.randrange(n), rng.randrange(n)
            b = (y * y - x ** 3 - a * x) % n
            for k in (2, 3, 5, 6):
                told = times_mod(n, (a, b), (x, y), k)
                if told[0] == "broken":
                    self.assertEqual(times_mod(n, (a, b), (x, y), 2 * k), told)
                    self.assertEqual(times_mod(n, (a, b), (x, y), 2 * k + 1), told)

    def test_great_k(self):
        p = 10 ** 9 + 7
        many = p * 10 ** 50
        word, point = times_mod(p, (2, 3), (3, 6), many)
        self.assertEqual(word, "point")
        x, y = point
        self.assertEqual((y * y - x ** 3 - 2 * x - 3) % p, 0)
        for k in (5, 12, 100):
            right = times_slowly(101, 1, k, (0, 1))
            self.assertEqual(times_mod(101, (1, 1), (0, 1), k), ("point", right or ()))


class CountTest(unittest.TestCase):
    def test_small_primes(self):
        for p in (5, 7, 11, 13, 31):
            for a in range(p):
                for b in range(p):
                    if (4 * a ** 3 + 27 * b * b) % p:
                        self.assertEqual(count_of(p, (a, b)), len(points_slowly(p, a, b)) + 1)

    def test_example_of_1009(self):
        without_b = {count_of(1009, (a, 0)) for a in range(1, 30)}
        without_a = {count_of(1009, (0, b)) for b in range(1, 40)}
        self.assertEqual(without_b, {1040, 980, 1066, 954})
        self.assertEqual(without_a, {1053, 967, 1072, 948, 1029, 991})
        told = counts_told(1009)
        self.assertEqual({many for kind, many in told if kind == "a"}, without_b)
        self.assertEqual({many for kind, many in told if kind == "b"}, without_a)

    def test_told_counts(self):
        for p in [p for p in range(5, 200) if is_prime_slowly(p)]:
            told = counts_told(p)
            self.assertEqual({m for kind, m in told if kind == "a"}, {count_of(p, (a, 0)) for a in range(1, p)})
            self.assertEqual({m for kind, m in told if kind == "b"}, {count_of(p, (0, b)) for b in range(1, p)})

    def test_great_prime(self):
        p = 99991
        self.assertEqual(count_of(p, (0, 7)) + count_of(p, (0, 7 * 6 ** 3)), 2 * p + 2 if pow(6, (p - 1) // 2, p) != 1 else 0)
        self.assertLess((count_of(p, (-3, 5)) - p - 1) ** 2, 4 * p)


class ChainTest(unittest.TestCase):
    def check(self, n):
        told = chain(n)
        if told is not None:
            self.assertEqual(told[0], "curve")
            self.assertEqual(is_shown(n, told), "prime")
            self.assertGreaterEqual(length_of(told), 1)
        return told

    def test_small_primes(self):
        told = [self.check(n) for n in range(5, 1500) if is_prime_slowly(n)]
        self.assertGreater(sum(cert is not None for cert in told), 200)

    def test_greater_primes(self):
        rng = random.Random(2)
        lengths = []
        for figures in range(5, 21):
            for _ in range(6):
                n = rng.randrange(10 ** (figures - 1), 10 ** figures) | 1
                while not is_prime(n):
                    n = n + 2 if n + 2 < 10 ** 20 else 10 ** 5 + 3
                told = self.check(n)
                if told is not None:
                    lengths.append(length_of(told))
        self.assertGreater(len(lengths), 60)
        self.assertGreater(max(lengths), 1)

    def test_1009(self):
        self.assertIsNotNone(self.check(1009))
        self.assertIn(chain(1009)[4], (967, 67, 79, 991))

    def test_equal_calls(self):
        for n in (1009, 10 ** 9 + 7, 10 ** 18 + 9):
            self.assertEqual(chain(n), chain(n))


class LengthTest(unittest.TestCase):
    def test_lengths(self):
        self.assertEqual(is_shown(GREAT, GREAT_CERT), "prime")
        self.assertEqual(length_of(GREAT_CERT), 7)
        self.assertEqual(length_of(OTHER_CERT), 6)
        self.assertEqual(length_of(SMALL), 0)
        # Steps behind ("powers", ..) are none of the chain.
        self.assertEqual(length_of(("powers", ((7, 1, 2, GREAT_CERT),))), 0)
        self.assertEqual(length_of(("curve", (0, 1), (2, 3), 1, 7, ("powers", ((7, 1, 2, GREAT_CERT),)))), 1)

    def test_long_ones(self):
        cert = SMALL
        for many in range(3000):
            cert = ("curve", (0, 1), (2, 3), 1, 7, cert)
        self.assertEqual(length_of(cert), 3000)


if __name__ == "__main__":
    unittest.main()
