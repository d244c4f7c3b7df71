import random
import unittest

from pointsum.changes import are_alike, back, changes_between, led, whole_curve
from pointsum.curves import numbers_of, plain_form, short_form
from pointsum.models import curve_of, is_least, least_model, reduced, scale_of
from pointsum.twists import twist
from tests.test_curves import some_curve

REDUCED = [(a1, a2, a3) for a1 in (0, 1) for a2 in (-1, 0, 1) for a3 in (0, 1)]
GREAT = (1000, -1000, 999, 10 ** 9, -10 ** 9)


def pair_of(curve):
    return numbers_of(curve)[4:6]


def divisors_of_powers(c4, c6):
    """All u from 1 to 3000 with u ** 4 dividing c4 and u ** 6 dividing c6."""
    return [u for u in range(1, 3001) if c4 % u ** 4 == 0 and c6 % u ** 6 == 0]


class ReducedTest(unittest.TestCase):
    def check(self, curve):
        told, change = reduced(curve)
        self.assertIn(told[:3], REDUCED)
        self.assertEqual(change[0], (1, 1))
        self.assertTrue(all(d == 1 for _, d in change))
        self.assertEqual(whole_curve(led(curve, change)), told)
        self.assertEqual(pair_of(told), pair_of(curve))
        self.assertEqual(curve_of(*pair_of(curve)), told)
        self.assertEqual(reduced(told), (told, ((1, 1), (0, 1), (0, 1), (0, 1))))

    def test_small_and_great_curves(self):
        rng = random.Random(1)
        for _ in range(200):
            self.check(some_curve(rng, 9, 50))
            self.check(some_curve(rng, 1000, 10 ** 9))
        for curve in (GREAT, (-1000, 1000, -999, 1, 1), (0, -1, 0), (5, 7, -11), (0, 0, 1, -1, 0)):
            self.check(curve)

    def test_all_small_residues(self):
        for a1 in range(-3, 4):
            for a2 in range(-4, 5):
                for a3 in range(-3, 4):
                    self.check((a1, a2, a3, 5, 7) if numbers_of((a1, a2, a3, 5, 7))[6] else (a1, a2, a3, 5, 8))

    def test_one_for_all_that_are_led(self):
        rng = random.Random(2)
        for _ in range(100):
            curve = some_curve(rng)
            change = ((1, 1),) + tuple((rng.randint(-9, 9), 1) for _ in range(3))
            other = whole_curve(led(curve, change))
            self.assertEqual(reduced(other)[0], reduced(curve)[0])

    def test_example(self):
        self.assertEqual(reduced((2, 3, 5, -1, 0))[0][:3], (0, 1, 1))
        self.assertEqual(reduced((0, 0, 1, -1, 0)), ((0, 0, 1, -1, 0), ((1, 1), (0, 1), (0, 1), (0, 1))))


class CurveOfTest(unittest.TestCase):
    def test_all_small_reduced_curves(self):
        found = {}
        for a1, a2, a3 in REDUCED:
            for a4 in range(-6, 7):
                for a6 in range(-6, 7):
                    curve = (a1, a2, a3, a4, a6)
                    if numbers_of(curve)[6]:
                        found[pair_of(curve)] = curve
        for pair, curve in found.items():
            self.assertEqual(curve_of(*pair), curve)
        # A reduced curve with so small a pair has a4 and a6 that were gone through above.
        for c4 in range(-60, 61):
            for c6 in range(-700, 701):
                self.assertEqual(curve_of(c4, c6), found.get((c4, c6)))

    def test_pairs_of_no_curve(self):
        # One each for b2, b4, b6, a4 and a6, of which none is whole.
        for pair in ((0, 1), (2, -1), (1, 7), (24, 0), (0, -432)):
            self.assertIsNone(curve_of(*pair), pair)
        rng = random.Random(3)
        for _ in range(300):
            c4, c6 = pair_of(some_curve(rng))
            for pair in ((c4 + 1, c6), (c4, c6 + 2), (c4, c6 + 12), (c4 + 24, c6)):
                told = curve_of(*pair)
                self.assertTrue(told is None or pair_of(told) == pair)

    def test_equal_powers(self):
        for pair in ((0, 0), (1, 1), (1, -1), (16, -64), (144, 1728), (144, -1728), (10 ** 40, 10 ** 60)):
            self.assertIsNone(curve_of(*pair))

    def test_signs(self):
        # c6 as told by b2, and its opposite: the twist by -1 has 16 c4 and 64 c6 as a reduced curve.
        c4, c6 = pair_of((0, 0, 1, -1, 0))
        self.assertEqual((c4, c6), (48, -216))
        self.assertIsNone(curve_of(48, 216))
        self.assertIsNotNone(curve_of(16 * 48, 64 * 216))

    def test_great_numbers(self):
        rng = random.Random(4)
        for _ in range(40):
            curve = tuple(rng.choice(REDUCED)) + (rng.randint(-10 ** 900, 10 ** 900), rng.randint(-10 ** 900, 10 ** 900))
            self.assertEqual(curve_of(*pair_of(curve)), curve)
            self.assertIsNone(curve_of(pair_of(curve)[0] + 1, pair_of(curve)[1]))


class LeastModelTest(unittest.TestCase):
    def check(self, curve, scale=None):
        least, change = least_model(curve)
        self.assertIn(least[:3], REDUCED)
        self.assertGreater(change[0][0], 0)
        self.assertEqual(whole_curve(led(curve, change)), least)
        self.assertIn(change, changes_between(curve, least))
        w = scale_of(curve)
        c4, c6 = pair_of(curve)
        self.assertEqual(pair_of(least), (c4 // w ** 4, c6 // w ** 6))
        self.assertEqual(numbers_of(curve)[6], numbers_of(least)[6] * w ** 12)
        if scale is None:
            scale = max(u for u in divisors_of_powers(c4, c6) if curve_of(c4 // u ** 4, c6 // u ** 6) is not None)
        self.assertEqual(w, scale)
        five = curve if len(curve) == 5 else (0, curve[0], 0, curve[1], curve[2])
        self.assertIs(is_least(curve), five == least)
        self.assertEqual(least_model(least), (least, ((1, 1), (0, 1), (0, 1), (0, 1))))
        self.assertIs(is_least(least), True)
        self.assertEqual(scale_of(least), 1)

    def test_example(self):
        told = least_model((0, 0, 0, -16, 16))
        self.assertEqual(told, ((0, 0, 1, -1, 0), ((2, 1), (0, 1), (0, 1), (4, 1))))
        self.assertEqual(scale_of((0, 0, 0, -16, 16)), 2)
        self.assertIs(is_least((0, 0, 0, -16, 16)), False)
        self.assertIs(is_least((0, 0, 1, -1, 0)), True)

    def test_small_curves(self):
        rng = random.Random(5)
        for _ in range(60):
            self.check(some_curve(rng, 9, 200))
        for curve in ((0, -1, 0), (0, 0, -2), (0, -16, 16), (4, 8, 16), (-2, 0, 64), GREAT):
            self.check(curve)

    def test_scales_with_two_and_three(self):
        rng = random.Random(6)
        for w in (1, 2, 3, 4, 6, 5, 8, 9, 12, 10, 35, 36, 49, 97):
            for _ in range(4):
                curve = least_model(some_curve(rng, 2, 9))[0]
                a, b = [-27 * c for c in pair_of(curve)]
                self.check((0, 0, 0, a * w ** 4, 2 * b * w ** 6), 6 * w)
                a1, a2, a3, a4, a6 = curve
                greater = (a1 * w, a2 * w * w, a3 * w ** 3, a4 * w ** 4, a6 * w ** 6)
                self.check(greater, w)
                change = ((1, 1),) + tuple((rng.randint(-9, 9), 1) for _ in range(3))
                self.check(whole_curve(led(greater, change)), w)

    def test_not_all_powers_are_let(self):
        # 2 ** 4 and 2 ** 6 (3 ** 4 and 3 ** 6) divide these c4 and c6, but no curve has the rest.
        for curve in ((0, 0, 0, 1, 0), (0, 0, 0, 0, 1), (0, 0, 0, -3, 1), (0, 0, 0, 3, 1), (0, 0, 0, -27, 27), (0, 0, 0, 0, 27)):
            self.check(curve)
        self.assertEqual(scale_of((0, 0, 0, 1, 0)), 1)
        self.assertEqual(divisors_of_powers(*pair_of((0, 0, 0, 16, 0))), [1, 2, 4])
        self.assertEqual(scale_of((0, 0, 0, 16, 0)), 2)
        self.assertEqual(scale_of((0, 0, 0, 0, 16)), 2)
        self.assertEqual(least_model((0, 0, 0, 0, 16))[0], (0, 0, 1, 0, 0))

    def test_nought_among_the_numbers(self):
        for k in (1, -1, 2, 5, 16, -27, 432, -432, 46656, 1000000):
            self.check((0, 0, 0, 0, k))
            self.check((0, 0, 0, k, 0))

    def test_great_primes(self):
        for p in (10007, 1000003, 10 ** 12 + 39):
            self.check((0, 0, 0, -16 * p ** 4, 16 * p ** 6), 2 * p)
            self.check((0, 0, 0, 0, 16 * p ** 6), 2 * p)
            self.check((0, 0, 0, -p ** 4, 0), p)

    def test_alike_exactly_if_equal(self):
        rng = random.Random(7)
        curves = [some_curve(rng, 1, 2) for _ in range(60)]
        curves += [(0, 0, 0) + short_form(curve) for curve in curves[:20]]
        curves += [plain_form(curve)[0] for curve in curves[:20]]
        curves += [(0, 0, 0) + twist(curve, -1) for curve in curves[:10]]
        models = [least_model(curve)[0] for curve in curves]
        for i, curve in enumerate(curves):
            for j, other in enumerate(curves):
                self.assertIs(are_alike(curve, other), models[i] == models[j])

    def test_change_back(self):
        least, change = least_model((0, 0, 0, -16, 16))
        self.assertEqual(whole_curve(led(least, back(change))), (0, 0, 0, -16, 16))

    def test_is_least(self):
        self.assertIs(is_least((0, -1, 0)), True)
        self.assertIs(is_least((0, 0, 0, -1, 0)), True)
        self.assertIs(is_least((2, 0, 1, -1, 0)), False)
        self.assertIs(is_least((0, -16, 0)), False)
        self.assertIs(is_least((2, -1, 0)), False)


if __name__ == "__main__":
    unittest.main()
