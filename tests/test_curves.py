import random
import time
import unittest
from fractions import Fraction

from pointsum.curves import is_curve, is_plain, j_of, numbers_of, plain_form, short_form
from pointsum.changes import are_alike, led, whole_curve
from tests.right_values import pair

# Values of which none is a tuple of three or five integers.
JUNK = (
    None, True, False, 0, 7, "", "curve", (), [], [0, 0, 1, -1, 0], [0, -1, 0], ("a", "b", "c"), (None,) * 5, (None,) * 3,
    (0, 0, 1, -1), (0, 0, 1, -1, 0, 0), (1, 1), (0, 0, 1, -1, "0"), (0, 0, 1, -1, None), (0, 0, True, -1, 0),
    (0, 0, 1, -1, False), (0, -1, False), (True, 0, 2), (0, (1,), 0, 1, 1), ((), (), ()), ([0], 0, 1), ((0, 0, 1, -1, 0),),
    ((0, 1), (0, 1), (1, 1), (-1, 1), (0, 1)), (0, 1, [0]), "abcde", "abc",
)


def some_curve(rng, small=3, great=30):
    while True:
        curve = tuple(rng.randint(-small, small) for _ in range(3)) + tuple(rng.randint(-great, great) for _ in range(2))
        if is_curve(curve):
            return curve


def singular_curve(rng):
    """Five integers whose curve has a singular point, led there from y y = x x x + b x x."""
    b, s, r, t = (rng.randint(-4, 4) for _ in range(4))
    change = ((1, rng.choice((1, 2))), (r, 1), (s, 1), (t, 1))
    return whole_curve(led((0, b, 0, 0, 0), change))


class IsCurveTest(unittest.TestCase):
    def test_junk(self):
        for value in JUNK:
            self.assertIs(is_curve(value), False, value)
            self.assertIs(is_plain(value), False, value)

    def test_curves(self):
        for value in ((0, 0, 1, -1, 0), (0, 0, 0, 0, 1), (0, 0, 0, 1, 0), (1, 2, 3, 4, 5), (10 ** 2000, 0, 0, 1, 7)):
            self.assertIs(is_curve(value), True, value)
            self.assertIs(is_plain(value), False, value)

    def test_singular_ones(self):
        # A cusp, a node, and both led elsewhere; the plain triples likewise.
        for value in ((0, 0, 0, 0, 0), (0, 1, 0, 0, 0), (0, -1, 0, 0, 0), (2, 0, 0, 0, 0), (0, 0, 2, 0, -1)):
            self.assertIs(is_curve(value), False, value)
        for value in ((0, 0, 0), (1, 0, 0), (-5, 8, -4), (-3, 3, -1), (3, 3, 1)):
            self.assertIs(is_plain(value), False, value)
        rng = random.Random(1)
        for _ in range(300):
            value = singular_curve(rng)
            self.assertIs(is_curve(value), False, value)
            self.assertEqual(numbers_of(value)[6], 0)

    def test_by_roots_modulo_nothing(self):
        # A cubic has a double root exactly if it is (x - r)(x - r)(x - s), r and s whole for whole a, b, c.
        doubles = {(-2 * r - s, r * r + 2 * r * s, -r * r * s) for r in range(-40, 41) for s in range(-99, 100)}
        for a in range(-9, 10):
            for b in range(-9, 10):
                for c in range(-9, 10):
                    self.assertIs(is_plain((a, b, c)), (a, b, c) not in doubles, (a, b, c))
                    self.assertIs(is_curve((0, a, 0, b, c)), (a, b, c) not in doubles, (a, b, c))

    def test_amounts_of_plain_curves(self):
        for value, want in (
            ((10000, 1, 0), True), ((-10000, 1, 0), True), ((10001, 1, 0), False), ((-10001, 1, 0), False),
            ((0, 10000, 0), True), ((0, -10001, 0), False), ((0, 0, -10000), True), ((0, 0, 10001), False),
            ((10000, 10000, 10000), True), ((0, 0, 10 ** 2000), False), ((-4000, 4000000, 0), False),
        ):
            self.assertIs(is_plain(value), want, value)


class NumbersTest(unittest.TestCase):
    def test_example(self):
        self.assertEqual(numbers_of((0, 0, 1, -1, 0)), (0, -2, 1, -1, 48, -216, 37))
        self.assertEqual(numbers_of((0, 0, 0, -16, 16))[4:6], (768, -13824))
        self.assertEqual(j_of((0, 0, 1, -1, 0)), (110592, 37))

    def test_known_curves(self):
        self.assertEqual(numbers_of((0, -1, 1, -10, -20))[4:], (496, 20008, -161051))
        self.assertEqual(j_of((0, -1, 1, -10, -20)), (-122023936, 161051))
        self.assertEqual(numbers_of((1, 0, 1, 4, -6))[4:], (-215, 5291, -21952))

    def test_identities(self):
        rng = random.Random(2)
        for _ in range(300):
            great = rng.choice((5, 10 ** 9, 10 ** 60))
            curve = some_curve(rng, rng.choice((1, 1000)), great)
            a1, a2, a3, a4, a6 = curve
            b2, b4, b6, b8, c4, c6, d = numbers_of(curve)
            self.assertEqual((b2, b4, b6), (a1 ** 2 + 4 * a2, 2 * a4 + a1 * a3, a3 ** 2 + 4 * a6))
            self.assertEqual(4 * b8, b2 * b6 - b4 * b4)
            self.assertEqual((c4, c6), (b2 ** 2 - 24 * b4, -b2 ** 3 + 36 * b2 * b4 - 216 * b6))
            self.assertEqual(c4 ** 3 - c6 ** 2, 1728 * d)
            self.assertEqual(j_of(curve), pair(Fraction(c4 ** 3, d)))

    def test_plain_curves(self):
        rng = random.Random(3)
        for _ in range(100):
            a, b, c = (rng.randint(-10000, 10000) for _ in range(3))
            self.assertEqual(numbers_of((a, b, c)), numbers_of((0, a, 0, b, c)))
            told = a * a * b * b - 4 * b ** 3 - 4 * a ** 3 * c - 27 * c * c + 18 * a * b * c
            self.assertEqual(numbers_of((a, b, c))[6], 16 * told)
            self.assertEqual(j_of((a, b, c)), j_of((0, a, 0, b, c)))
            self.assertEqual(short_form((a, b, c)), short_form((0, a, 0, b, c)))

    def test_j_of_edges(self):
        self.assertEqual(j_of((0, 0, 0, 0, 5)), (0, 1))
        self.assertEqual(j_of((0, 0, 0, 5, 0)), (1728, 1))
        self.assertEqual(j_of((0, 0, 1, 0, 0)), (0, 1))


class ShortFormTest(unittest.TestCase):
    def check(self, curve):
        a, b = short_form(curve)
        self.assertTrue(are_alike(curve, (0, 0, 0, a, b)), curve)
        for p in range(2, 400):
            self.assertFalse(a % p ** 4 == 0 and b % p ** 6 == 0, (curve, p))
        return (a, b)

    def test_examples(self):
        self.assertEqual(short_form((0, 0, 1, -1, 0)), (-16, 16))
        self.assertEqual(short_form((0, 0, 0, -16, 16)), (-16, 16))
        self.assertEqual(short_form((0, 0, 0, -1, 0)), (-1, 0))
        self.assertEqual(short_form((0, -1, 0)), (-1, 0))
        self.assertEqual(short_form((0, 0, 0, 0, 1)), (0, 1))
        self.assertEqual(short_form((0, 0, 0, 0, 64)), (0, 1))
        self.assertEqual(short_form((0, 0, 0, 16, 0)), (1, 0))
        self.assertEqual(short_form((0, 0, 1, 0, 0)), (0, 16))

    def test_random_ones(self):
        rng = random.Random(4)
        for _ in range(300):
            self.check(some_curve(rng, rng.choice((1, 20, 1000)), rng.choice((10, 10 ** 9))))

    def test_short_curves_divided(self):
        for a, b in ((1, 1), (-16, 16), (0, 5), (7, 0), (-1, 0), (0, 1), (16, 2), (2, 64), (-48, 27)):
            first = self.check((0, 0, 0, a, b))
            for u in (2, 3, 6, 101, 10007, 10 ** 9 + 7, 10007 * 10009, 2 ** 40, 10 ** 30 + 57):
                self.assertEqual(short_form((0, 0, 0, a * u ** 4, b * u ** 6)), first, (a, b, u))

    def test_great_primes_beside_the_powers(self):
        p, q = 10007, 1000003
        self.assertEqual(short_form((0, 0, 0, p ** 4 * q, p ** 6 * q)), (q, q))
        self.assertEqual(short_form((0, 0, 0, p ** 5 * q ** 4, p ** 6 * q ** 8)), (p, q ** 2))
        self.assertEqual(short_form((0, 0, 0, p ** 3 * q ** 3, p ** 9 * q ** 9)), (p ** 3 * q ** 3, p ** 9 * q ** 9))
        self.assertEqual(short_form((0, 0, 0, 0, p ** 7 * q ** 5)), (0, p * q ** 5))
        self.assertEqual(short_form((0, 0, 0, p ** 7 * q ** 5, 0)), (p ** 3 * q, 0))
        self.assertEqual(short_form((0, 0, 0, p ** 8, p ** 12 * q)), (1, q))
        self.assertEqual(short_form((0, 0, 0, p ** 8, p ** 11)), (p ** 4, p ** 5))

    def test_alike_exactly_if_equal(self):
        rng = random.Random(5)
        curves = [some_curve(rng, 2, 4) for _ in range(60)]
        for curve in curves:
            for other in curves:
                self.assertIs(are_alike(curve, other), short_form(curve) == short_form(other))

    def test_greatest_curves_in_time(self):
        start = time.perf_counter()
        for curve in ((1000, 1000, 1000, 10 ** 9, 10 ** 9), (-999, 1000, -1000, -10 ** 9, 10 ** 9 - 1),
                      (0, 0, 0, 0, 999999937), (0, 0, 0, 999999937, 0), (0, 0, 0, 10 ** 9, -10 ** 9)):
            self.check(curve)
        self.assertLess(time.perf_counter() - start, 10)


class PlainFormTest(unittest.TestCase):
    def test_examples(self):
        self.assertEqual(plain_form((0, 0, 1, -1, 0)), ((0, -16, 16), ((1, 2), (0, 1), (0, 1), (-1, 2))))
        self.assertEqual(plain_form((5, 1, -7)), ((5, 1, -7), ((1, 1), (0, 1), (0, 1), (0, 1))))
        self.assertEqual(plain_form((2, 0, 4, 1, 1)), ((1, 5, 5), ((1, 1), (0, 1), (-1, 1), (-2, 1))))
        self.assertEqual(plain_form((1, 0, 2, 0, 0)), ((1, 16, 64), ((1, 2), (0, 1), (-1, 2), (-1, 1))))

    def test_random_ones(self):
        rng = random.Random(6)
        seen = set()
        for _ in range(400):
            curve = some_curve(rng, rng.choice((2, 1000)), rng.choice((9, 10 ** 9)))
            (a, b, c), change = plain_form(curve)
            self.assertEqual(whole_curve(led(curve, change)), (0, a, 0, b, c))
            even = curve[0] % 2 == 0 and curve[2] % 2 == 0
            seen.add((curve[0] % 2, curve[2] % 2))
            self.assertEqual(change[0], (1, 1) if even else (1, 2))
            self.assertEqual(short_form((a, b, c)), short_form(curve))
        self.assertEqual(len(seen), 4)

    def test_beyond_the_amounts(self):
        plain, _ = plain_form((1000, 1000, 999, 10 ** 9, 10 ** 9))
        self.assertIs(is_plain(plain), False)
        self.assertEqual(plain_form(plain)[0], plain)
        self.assertEqual(numbers_of(plain)[6], 2 ** 12 * numbers_of((1000, 1000, 999, 10 ** 9, 10 ** 9))[6])


if __name__ == "__main__":
    unittest.main()
