import random
import time
import unittest
from fractions import Fraction

from pointsum.polynomials import (
    common_part, count_between, derivative, fraction_roots, roots_over, times_of, value_at, whole_roots,
)
from tests.right_values import frac, is_prime_slowly, pair


def product(parts):
    out = (1,)
    for f in parts:
        out = times_of(out, f)
    return out


def some(rng, degree, most):
    """A polynomial of a degree with coefficients of amounts up to most."""
    return tuple(rng.randint(-most, most) for _ in range(degree)) + (rng.choice((-1, 1)) * rng.randint(1, most),)


def divided(f, g):
    """Whole part and rest of f over g with fractions."""
    rest, whole = [Fraction(c) for c in f], []
    while len(rest) >= len(g):
        k = rest[-1] / g[-1]
        whole.append(k)
        for i, c in enumerate(g):
            rest[len(rest) - len(g) + i] -= k * c
        rest.pop()
    while rest and rest[-1] == 0:
        rest.pop()
    return whole[::-1], rest


def sturm(f, a, b):
    """The number of [10] by Sturm's row with fractions."""
    row = [[Fraction(c) for c in f], [Fraction(c) for c in derivative(f)]]
    while row[-1]:
        row.append([-c for c in divided(row[-2], row[-1])[1]])
    row.pop()
    row = [divided(g, row[-1])[0] for g in row]

    def changes(x):
        values = [sum(c * x ** k for k, c in enumerate(g)) for g in row]
        values = [v for v in values if v != 0]
        return sum((u > 0) != (v > 0) for u, v in zip(values, values[1:]))

    return changes(a) - changes(b) if a < b else 0


class ValueTest(unittest.TestCase):
    def test_whole_numbers(self):
        self.assertEqual(value_at((), 7), 0)
        self.assertEqual(value_at((5,), 7), 5)
        self.assertEqual(value_at((-1, 1, 6), -2), 21)
        self.assertEqual(value_at((0, 0, 1), 10 ** 50), 10 ** 100)
        self.assertIsInstance(value_at((1, 2), 3), int)

    def test_fractions(self):
        self.assertEqual(value_at((), (7, 2)), (0, 1))
        self.assertEqual(value_at((5,), (7, 2)), (5, 1))
        self.assertEqual(value_at((-1, 1, 6), (1, 3)), (0, 1))
        self.assertEqual(value_at((0, 2), (1, 2)), (1, 1))
        self.assertEqual(value_at((1, 2), (3, 1)), (7, 1))
        rng = random.Random(1)
        for _ in range(300):
            f = some(rng, rng.randrange(7), 9)
            x = Fraction(rng.randint(-30, 30), rng.randint(1, 12))
            self.assertEqual(value_at(f, pair(x)), pair(sum(c * x ** k for k, c in enumerate(f))))

    def test_degree_80(self):
        f = (1,) * 81
        self.assertEqual(value_at(f, (10, 3)), pair((Fraction(10, 3) ** 81 - 1) / Fraction(7, 3)))
        self.assertEqual(value_at(f, -1), 1)


class ProductTest(unittest.TestCase):
    def test_products(self):
        self.assertEqual(times_of((), (1, 2)), ())
        self.assertEqual(times_of((1, 2), ()), ())
        self.assertEqual(times_of((), ()), ())
        self.assertEqual(times_of((3,), (-1, 2)), (-3, 6))
        self.assertEqual(times_of((1, 1), (-1, 1)), (-1, 0, 1))
        rng = random.Random(2)
        for _ in range(100):
            f, g = some(rng, rng.randrange(41), 10 ** 20), some(rng, rng.randrange(41), 10 ** 20)
            self.assertEqual(len(times_of(f, g)), len(f) + len(g) - 1)
            self.assertEqual(value_at(times_of(f, g), 10 ** 9), value_at(f, 10 ** 9) * value_at(g, 10 ** 9))

    def test_derivative(self):
        self.assertEqual([derivative(f) for f in ((), (7,), (7, 5), (0, 0, 0, 2))], [(), (), (5,), (0, 0, 6)])


class CommonPartTest(unittest.TestCase):
    def test_edges(self):
        self.assertEqual(common_part((), ()), ())
        self.assertEqual(common_part((), (4, -6)), (-2, 3))
        self.assertEqual(common_part((6,), ()), (1,))
        self.assertEqual(common_part((4,), (6,)), (1,))
        self.assertEqual(common_part((4, 8), (6,)), (1,))
        self.assertEqual(common_part((2, 2), (-1, -1)), (1, 1))
        self.assertEqual(common_part((0, 0, 6), (0, 4)), (0, 1))
        self.assertEqual(common_part((-1, 0, 1), (-2, 2)), (-1, 1))

    def test_random_ones(self):
        rng = random.Random(3)
        for size in (2, 5, 1000):
            for _ in range(150):
                parts = [some(rng, rng.randrange(4), size) for _ in range(4)]
                f = product(rng.choice(parts) for _ in range(rng.randrange(1, 5)))
                g = product(rng.choice(parts) for _ in range(rng.randrange(1, 5)))
                a, b = f, g
                while b:
                    a, b = b, divided(a, b)[1]
                told = common_part(f, g)
                self.assertEqual([c * a[-1] for c in told], [c * told[-1] for c in a])
                self.assertTrue(told[-1] > 0 and all(isinstance(c, int) for c in told))
                self.assertTrue(all(any(c % d for c in told) for d in range(2, max(map(abs, told)) + 1)[:2000]))
                self.assertEqual(common_part(g, f), told)

    def test_great_ones(self):
        rng = random.Random(4)
        for digits in (5, 60, 400):
            f, g, h = (some(rng, 40, 10 ** digits) for _ in range(3))
            h = times_of(h, (rng.randrange(10 ** digits), 1))[:41]
            h = h if h[-1] > 0 else tuple(-c for c in h)
            told = common_part(times_of(f, h), times_of(g, h))
            self.assertEqual(divided(h, told)[1], [])
            self.assertEqual(len(told), len(h))
            self.assertGreater(told[-1], 0)

    def test_a_part_that_is_a_number_modulo_a_great_prime(self):
        # The part loses its degree modulo the prime at which a first look is taken, or a prime of its own.
        for p in (2 ** 61 - 1, 101, 999999937):
            part = (1, p)
            self.assertEqual(common_part(times_of(part, (-1, 1)), times_of(part, (2, 1))), part)
            self.assertEqual(common_part(times_of(part, (-1, p)), times_of(part, (2, 1))), part)
            self.assertEqual(common_part((p, 1), (0, 1)), (1,))

    def test_powers(self):
        f = product([(-1, 1)] * 50 + [(2, 3)] * 30)
        self.assertEqual(common_part(f, derivative(f)), product([(-1, 1)] * 49 + [(2, 3)] * 29))


class RootsOverTest(unittest.TestCase):
    def test_small_primes(self):
        rng = random.Random(5)
        for p in [p for p in range(2, 60) if is_prime_slowly(p)] + [499, 503, 509, 521]:
            for _ in range(25):
                f = some(rng, rng.randrange(13), 50)
                if all(c % p == 0 for c in f):
                    continue
                told = tuple(x for x in range(p) if value_at(f, x) % p == 0)
                self.assertEqual(roots_over(f, p), told, (f, p))

    def test_edges(self):
        self.assertEqual(roots_over((1,), 2), ())
        self.assertEqual(roots_over((0, 1), 999999937), (0,))
        self.assertEqual(roots_over((0, -1, 1), 2), (0, 1))
        self.assertEqual(roots_over((3, 999999937), 999999937), ())
        self.assertEqual(roots_over((-3, 1, 999999937), 999999937), (3,))
        p = 503
        self.assertEqual(roots_over((1, 0, 1), p), ())

    def test_great_primes(self):
        rng = random.Random(6)
        for p in (999999937, 999999929, 1000003, 65537):
            self.assertTrue(is_prime_slowly(p))
            for many in (1, 2, 5, 12):
                roots = [rng.randrange(p) for _ in range(many)]
                f = product([(-r, 1) for r in roots] + [(rng.randrange(1, p),)])
                self.assertEqual(roots_over(f, p), tuple(sorted(set(roots))))
                shifted = product([(p * 10 ** 30 - r, 1) for r in roots])
                self.assertEqual(roots_over(shifted, p), tuple(sorted(set(roots))))
            none = next(a for a in range(2, p) if pow(a, (p - 1) // 2, p) == p - 1)
            self.assertEqual(roots_over(product([(-none, 0, 1), (-4, 0, 1)]), p), (2, p - 2))
            self.assertEqual(roots_over(product([(0, 1)] * 6 + [(-1, 1)] * 6), p), (0, 1))
        start = time.perf_counter()
        for _ in range(20):
            roots_over(some(rng, 12, 10 ** 9), 999999937)
        self.assertLess(time.perf_counter() - start, 20)


class RootsTest(unittest.TestCase):
    def test_examples_and_edges(self):
        self.assertEqual(fraction_roots((-1, 1, 6)), ((-1, 2), (1, 3)))
        self.assertEqual(whole_roots((-1, 1, 6)), ())
        for f in ((5,), (-1,), (1, 0, 1), (-2, 0, 1), (2, 0, 0, 1)):
            self.assertEqual((whole_roots(f), fraction_roots(f)), ((), ()), f)
        self.assertEqual(fraction_roots((0, 0, 7)), ((0, 1),))
        self.assertEqual(whole_roots((0, 3)), (0,))
        self.assertEqual(whole_roots((0, -1, 0, 1)), (-1, 0, 1))
        self.assertEqual(fraction_roots((7, -3)), ((7, 3),))
        self.assertEqual(fraction_roots(product([(-1, 1)] * 5)), ((1, 1),))
        self.assertEqual(whole_roots(product([(-2, 1), (-1, 2), (3, 1)])), (-3, 2))

    def test_random_ones(self):
        rng = random.Random(7)
        for _ in range(600):
            roots = [Fraction(rng.randint(-12, 12), rng.randint(1, 7)) for _ in range(rng.randrange(5))]
            parts = [(-r.numerator, r.denominator) for r in roots for _ in range(rng.randrange(1, 3))]
            parts += [rng.choice(((1, 0, 1), (-2, 0, 1), (1, 1, 1), (-3, 0, 0, 2), (5,), (-1,)))]
            rng.shuffle(parts)
            f = product(parts)
            want = sorted(set(roots))
            self.assertEqual(fraction_roots(f), tuple(pair(r) for r in want))
            self.assertEqual(whole_roots(f), tuple(int(r) for r in want if r.denominator == 1))

    def test_degree_80(self):
        f = product((-k, 1) for k in range(-39, 41))
        self.assertEqual(whole_roots(f), tuple(range(-39, 41)))
        f = product((k, k + 1) for k in range(1, 81))
        self.assertEqual(fraction_roots(f), tuple((-k, k + 1) for k in range(80, 0, -1)))
        self.assertEqual(fraction_roots((-1,) + (0,) * 79 + (1,)), ((-1, 1), (1, 1)))
        self.assertEqual(fraction_roots((-3 ** 80,) + (0,) * 79 + (2 ** 80,)), ((-3, 2), (3, 2)))
        self.assertEqual(fraction_roots((2,) + (0,) * 79 + (1,)), ())

    def test_great_coefficients(self):
        rng = random.Random(8)
        for degree, digits in ((2, 3000), (10, 500), (40, 60)):
            roots = [Fraction(rng.randint(-10 ** digits, 10 ** digits), rng.randint(1, 10 ** digits))
                     for _ in range(degree)]
            f = product((-r.numerator, r.denominator) for r in roots)
            self.assertEqual(fraction_roots(f), tuple(pair(r) for r in sorted(set(roots))))
        # No prime up to 101 is of use here, and 1 and -1 fall together at 2 only.
        great = product([(p,) for p in range(3, 400) if is_prime_slowly(p)])[0]
        self.assertEqual(fraction_roots(product([(-1, great), (1, great), (great, 1)])),
                         ((-great, 1), (-1, great), (1, great)))
        self.assertEqual(fraction_roots(product([(-1, great), (-2, great), (-3, 1, great)])),
                         ((1, great), (2, great)))

    def test_unlike_sizes_of_both_parts(self):
        for n, d in ((10 ** 300 + 1, 7), (7, 10 ** 300 + 1), (10 ** 300 + 1, 1), (1, 10 ** 300 + 1)):
            f = product([(-n, d), (n + d, d), (1, 1, 1)])
            self.assertEqual(fraction_roots(f), (pair(-Fraction(n + d, d)), (n, d)))


class CountTest(unittest.TestCase):
    def test_bounds(self):
        f = (0, -1, 0, 1)
        for a, b, want in (
            ((-2, 1), (2, 1), 3), ((-1, 1), (1, 1), 2), ((-1, 1), (0, 1), 1), ((-2, 1), (-1, 1), 1), ((0, 1), (1, 1), 1),
            ((0, 1), (1, 2), 0), ((1, 1), (2, 1), 0), ((1, 1), (1, 1), 0), ((0, 1), (0, 1), 0), ((2, 1), (-2, 1), 0),
            ((1, 1), (-1, 1), 0), ((-1, 2), (1, 2), 1), ((-10 ** 50, 1), (10 ** 50, 3), 3), ((5, 1), (9, 1), 0),
            ((-9, 1), (-5, 1), 0), ((10 ** 50, 1), (10 ** 50 + 1, 1), 0),
        ):
            self.assertEqual(count_between(f, a, b), want, (a, b))

    def test_no_roots(self):
        for f in ((5,), (-5,), (1, 0, 1), (1, 1, 1), (2, 0, 0, 0, 1)):
            self.assertEqual(count_between(f, (-100, 1), (100, 1)), 0)

    def test_roots_that_are_no_fractions(self):
        f = (-2, 0, 1)
        self.assertEqual(count_between(f, (0, 1), (7, 5)), 0)
        self.assertEqual(count_between(f, (0, 1), (17, 12)), 1)
        self.assertEqual(count_between(f, (7, 5), (3, 2)), 1)
        self.assertEqual(count_between(f, (-2, 1), (2, 1)), 2)

    def test_unlike_roots_are_counted_once(self):
        f = product([(-1, 1)] * 7 + [(-1, 2)] * 4 + [(1, 0, 1)] * 3)
        self.assertEqual(count_between(f, (0, 1), (1, 1)), 2)
        self.assertEqual(count_between(f, (1, 2), (1, 1)), 1)
        self.assertEqual(count_between(f, (0, 1), (1, 2)), 1)
        self.assertEqual(count_between(f, (1, 1), (5, 1)), 0)

    def test_random_ones(self):
        rng = random.Random(9)
        for _ in range(1500):
            parts = [some(rng, rng.randrange(4), rng.choice((1, 3, 10, 100))) for _ in range(rng.randrange(1, 5))]
            parts += [rng.choice(parts) for _ in range(rng.randrange(3))]
            f = product(parts)
            a, b = (Fraction(rng.randint(-20, 20), rng.randint(1, 6)) for _ in range(2))
            roots = fraction_roots(f)
            if roots and rng.random() < 0.4:
                a = frac(rng.choice(roots))
            if roots and rng.random() < 0.4:
                b = frac(rng.choice(roots))
            self.assertEqual(count_between(f, pair(a), pair(b)), sturm(f, a, b) if len(f) > 1 else 0, (f, a, b))

    def test_degree_80(self):
        f = product((-k, 1) for k in range(1, 81))
        self.assertEqual(count_between(f, (0, 1), (80, 1)), 80)
        self.assertEqual(count_between(f, (1, 1), (79, 1)), 78)
        self.assertEqual(count_between(f, (-10 ** 90, 1), (10 ** 90, 7)), 80)
        near = tuple(c + (1 if k == 0 else 0) for k, c in enumerate(product([(-1, 1)] * 80)))
        self.assertEqual(count_between(near, (-9, 1), (9, 1)), 0)
        near = tuple(c - (1 if k == 0 else 0) for k, c in enumerate(product([(-1, 1)] * 80)))
        self.assertEqual(count_between(near, (-9, 1), (9, 1)), 2)
        self.assertEqual(count_between(near, (0, 1), (1, 1)), 0)

    def test_rows_with_known_roots(self):
        # All roots of these polynomials lie between -1 and 1, and all are unlike.
        ahead, f = (1,), (0, 1)
        for n in range(2, 81):
            double = [2 * c for c in times_of((0, 1), f)]
            for k, c in enumerate(ahead):
                double[k] -= c
            ahead, f = f, tuple(double)
            if n % 13 == 2:
                self.assertEqual(count_between(f, (-1, 1), (1, 1)), n)
                self.assertEqual(count_between(f, (0, 1), (1, 1)), n // 2)

    def test_close_roots(self):
        for k in (5, 50, 1000):
            t = 10 ** k
            f = product([(-1, t), (-1, t + 1), (-5, 1), (-2, 0, 1)])
            self.assertEqual(count_between(f, (0, 1), (1, 1)), 2)
            self.assertEqual(count_between(f, (1, t + 1), (1, t)), 1)
            self.assertEqual(count_between(f, (0, 1), (1, t + 1)), 1)
            self.assertEqual(count_between(f, (-2, 1), (5, 1)), 5)
        start = time.perf_counter()
        # x ** n - 2 (t x - 1) ** 2 has two real roots very near to 1 / t, and with + none there.
        for n, k in ((5, 40), (20, 20), (41, 10), (20, 100)):
            t = 10 ** k
            f = (-2, 4 * t, -2 * t * t) + (0,) * (n - 3) + (1,)
            self.assertEqual(count_between(f, (0, 1), (1, 1)), 2)
            f = (2, -4 * t, 2 * t * t) + (0,) * (n - 3) + (1,)
            self.assertEqual(count_between(f, (0, 1), (1, 1)), 0)
        self.assertLess(time.perf_counter() - start, 20)

    def test_great_coefficients(self):
        rng = random.Random(10)
        for degree, digits in ((3, 2000), (80, 30)):
            roots = [Fraction(rng.randint(-10 ** digits, 10 ** digits), rng.randint(1, 10 ** digits))
                     for _ in range(degree)]
            f = product((-r.numerator, r.denominator) for r in roots)
            a, b = min(roots), max(roots)
            self.assertEqual(count_between(f, pair(a), pair(b)), len(set(roots)) - 1)


if __name__ == "__main__":
    unittest.main()
