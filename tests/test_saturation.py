import random
import unittest
from fractions import Fraction
from math import ceil

from pointsum.errors import TooGreat
from pointsum.finite import finite_part, order_of
from pointsum.heights import constants, determinant_bounds, height_bounds
from pointsum.independence import shown_by
from pointsum.points import added, multiple, opposite
from pointsum.quotients import logs_over
from pointsum.rows import leading_rows
from pointsum.saturation import divided, is_saturated, saturated
from pointsum.search import box_of
from pointsum.sums import sum_of_multiples
from tests.right_values import frac, order_of_points
from tests.test_finite import some_plain
from tests.test_independence import good_primes, plus_over, times_over

# Curves with independent points that make, with those of finite order, all points; ranks 1 to 3, T of many forms.
GROUPS = (
    ((0, 0, -2), (((3, 1), (5, 1)),)),
    ((0, -16, 16), (((0, 1), (4, 1)),)),
    ((0, -25, 0), (((-4, 1), (6, 1)),)),
    ((0, 0, 9), (((-2, 1), (1, 1)),)),
    ((0, 0, 17), (((-2, 1), (3, 1)), ((-1, 1), (4, 1)))),
    ((0, 0, 225), (((4, 1), (17, 1)), ((-5, 1), (10, 1)))),
    ((0, -82, 0), (((-1, 1), (9, 1)), ((-8, 1), (12, 1)), ((-9, 1), (3, 1)))),
)
PRIMES = (2, 3, 5, 7, 11, 13, 17, 19)


def divided_slowly(curve, point, l):
    """What divided tells for l from 5 on, by the words: "box", or the tuple."""
    high = frac(height_bounds(curve, point, 4)[1])
    digits = ceil(high / (l * l) + Fraction(constants(curve)[0].bit_length(), 3))
    if digits > 13:
        return "box"
    found = []
    for Q in box_of(curve, 2 ** digits):
        place = ()
        for _ in range(l):
            place = added(curve, place, Q)
        if place == point:
            found.append(Q)
    return order_of_points(found)


def told_divided(curve, point, l):
    try:
        return divided(curve, point, l)
    except TooGreat as error:
        return error.what


class LogsTest(unittest.TestCase):
    def test_by_all_points(self):
        # A sum of multiples is l times a point exactly if the logs say so, whatever the group is like.
        rng = random.Random(1)
        sizes = set()
        for _ in range(250):
            curve = rng.choice(GROUPS)[0] if rng.random() < 0.5 else some_plain(rng, 15)
            p = rng.choice(good_primes(curve, 45))
            l = rng.choice((2, 3, 5, 7))
            a, b, c = curve
            places = [(x, y) for x in range(p) for y in range(p) if (y * y - x ** 3 - a * x * x - b * x - c) % p == 0]
            points = [()] + [((x, 1), (y, 1)) for x, y in places]
            image = {times_over(p, curve, l, place) for place in [()] + places}
            logs = logs_over(curve, p, l, points, None)
            self.assertEqual(logs, logs_over(curve, p, l, points, len(points)))
            self.assertEqual(l ** len(logs[0]), len(set(logs)))
            self.assertEqual(len(points), len(image) * len(set(logs)))
            sizes.add((l, len(logs[0])))
            for place, log in zip([()] + places, logs):
                self.assertEqual(place in image, not any(log))
            for _ in range(5):
                i, j = rng.randrange(len(points)), rng.randrange(len(points))
                at = ([()] + places).index(plus_over(p, curve, ([()] + places)[i], ([()] + places)[j]))
                self.assertEqual(logs[at], tuple((m + n) % l for m, n in zip(logs[i], logs[j])))
        self.assertTrue({(2, 0), (2, 1), (2, 2), (3, 0), (3, 1), (3, 2), (5, 1), (7, 1)} <= sizes)


class RowsTest(unittest.TestCase):
    def test_one_of_each_class(self):
        for many, behind, l in ((1, 0, 2), (2, 1, 3), (3, 0, 5), (1, 2, 2), (0, 1, 3)):
            rows = leading_rows(many, behind, l)
            seen = set()
            for row in rows:
                self.assertTrue(any(row[:many]))
                for k in range(1, l):
                    seen.add(tuple(k * n % l for n in row))
            self.assertEqual(len(seen), len(rows) * (l - 1))
            self.assertEqual(len(seen), (l ** many - 1) * l ** behind)


class DividedTest(unittest.TestCase):
    def test_two_and_three(self):
        rng = random.Random(2)
        for curve, points in GROUPS:
            finite = finite_part(curve)
            for _ in range(12):
                P = added(curve, multiple(curve, rng.choice((1, 2, 3, -4)), rng.choice(points)), rng.choice(finite))
                for l in (2, 3):
                    told = divided(curve, multiple(curve, l, P), l)
                    right = [added(curve, P, end) for end in finite if multiple(curve, l, end) == ()]
                    self.assertEqual(told, order_of_points(right))

    def test_none(self):
        for curve, points in GROUPS:
            for P in points:
                for l in (2, 3):
                    self.assertEqual(divided(curve, P, l), ())
        curve = (0, -16, 16)
        for l in PRIMES[2:]:
            self.assertEqual(told_divided(curve, ((0, 1), (4, 1)), l), divided_slowly(curve, ((0, 1), (4, 1)), l))

    def test_greater_primes_by_the_words(self):
        rng = random.Random(3)
        answers = set()
        for curve, points in GROUPS:
            finite = finite_part(curve)
            for l in PRIMES[2:]:
                for n in rng.sample((1, l, 2, 3, 4), 2 if l < 11 else 1):
                    P = added(curve, multiple(curve, n, rng.choice(points)), rng.choice(finite))
                    told = told_divided(curve, P, l)
                    self.assertEqual(told, divided_slowly(curve, P, l), (curve, P, l))
                    answers.add(told if told == "box" else len(told))
        self.assertTrue({"box", 0, 1} <= answers)

    def test_great_points(self):
        # Their HIGH is beyond, whatever they are; for 2 and 3 they are divided.
        curve, P = (0, 0, -2), ((3, 1), (5, 1))
        great = multiple(curve, 54, P)
        for l in (5, 7, 11, 13, 17, 19):
            with self.assertRaises(TooGreat) as caught:
                divided(curve, great, l)
            self.assertEqual(caught.exception.what, "box")
        self.assertEqual(divided(curve, great, 2), (multiple(curve, 27, P),))
        self.assertEqual(divided(curve, great, 3), (multiple(curve, 18, P),))

    def test_great_constants(self):
        # K alone is beyond every box.
        for curve, P in (((0, 0, 9999), ((1, 1), (-100, 1))), ((5000, 5000, 1), ((0, 1), (-1, 1)))):
            self.assertGreater(constants(curve)[0].bit_length(), 39)
            for l in PRIMES[2:]:
                self.assertEqual(told_divided(curve, P, l), "box")
            self.assertIn(P, divided(curve, added(curve, P, P), 2))


class SaturatedTest(unittest.TestCase):
    def test_whole_groups(self):
        for curve, points in GROUPS:
            for l in PRIMES:
                self.assertIs(is_saturated(curve, points, l), True, (curve, l))
                self.assertEqual(len(saturated(curve, points, l)), len(points))

    def test_multiples_are_none(self):
        for curve, points in GROUPS:
            finite = finite_part(curve)
            for l in (2, 3):
                for end in finite:
                    bent = (added(curve, multiple(curve, l, points[0]), end), *points[1:])
                    right = any(multiple(curve, l, other) == end for other in finite)
                    # l P + t is l times a point exactly if t is; but t may be taken off, as it is in the group.
                    self.assertIs(is_saturated(curve, bent, l), False)
                    self.assertEqual(divided(curve, bent[0], l) != (), right)

    def test_mixed_sums(self):
        rng = random.Random(4)
        for curve, points in GROUPS:
            finite = finite_part(curve)
            for l in (2, 3):
                for _ in range(4):
                    bent = list(points)
                    numbers = [rng.randrange(l) for _ in points]
                    numbers[0] = l
                    bent[0] = added(curve, sum_of_multiples(curve, numbers, points), rng.choice(finite))
                    rng.shuffle(bent)
                    self.assertIs(is_saturated(curve, tuple(bent), l), False, (curve, bent, l))
                    self.check(curve, tuple(bent), l)
                    other = 3 if l == 2 else 2
                    self.assertIs(is_saturated(curve, tuple(bent), other), True)

    def check(self, curve, points, l):
        """What saturated tells has the points among its sums, and is saturated."""
        told = saturated(curve, points, l)
        self.assertIsInstance(told, tuple)
        self.assertEqual(len(told), len(points))
        self.assertIs(is_saturated(curve, told, l), True)
        self.assertIsNotNone(shown_by(curve, told))
        # The old points in the new group: every one is a small sum of the new ones and T.
        self.assertTrue(all(self.is_sum(curve, told, P) for P in points), (curve, points, told))
        return told

    def is_sum(self, curve, points, P):
        rows = [()]
        for Q in points:
            rows = [(*row, n) for row in rows for n in range(-9, 10)]
        rows.sort(key=lambda row: max(map(abs, row)))
        for row in rows:
            if order_of(curve, added(curve, P, opposite(curve, sum_of_multiples(curve, row, points)))) is not None:
                return True
        return False

    def test_several_steps(self):
        curve, (P,) = GROUPS[0]
        self.assertEqual(saturated(curve, (multiple(curve, 8, P),), 2) in ((P,), (opposite(curve, P),)), True)
        self.assertEqual(saturated(curve, (multiple(curve, 27, P),), 3) in ((P,), (opposite(curve, P),)), True)
        # At 2 only the factors 2 go.
        told = saturated(curve, (multiple(curve, 12, P),), 2)
        self.assertIn(told, ((multiple(curve, 3, P),), (multiple(curve, -3, P),)))
        curve, points = GROUPS[4]
        P, Q = points
        bent = (multiple(curve, 4, P), added(curve, multiple(curve, 2, Q), P))
        told = self.check(curve, bent, 2)
        self.check_index(curve, points, told, 1)

    def test_three_points(self):
        curve, points = GROUPS[6]
        P, Q, S = points
        for l, bent in (
            (2, (added(curve, P, Q), added(curve, P, opposite(curve, Q)), S)),
            (2, (multiple(curve, 2, P), multiple(curve, 2, Q), multiple(curve, 2, S))),
            (3, (added(curve, P, added(curve, Q, S)), added(curve, P, multiple(curve, -2, Q)), S)),
        ):
            self.assertIs(is_saturated(curve, bent, l), False)
            self.check_index(curve, points, self.check(curve, bent, l), 1)

    def check_index(self, curve, points, told, index):
        """The determinants of both are as the index tells."""
        first, second = determinant_bounds(curve, points, 6), determinant_bounds(curve, told, 6)
        low, high = frac(first[0]) * index ** 2, frac(first[1]) * index ** 2
        self.assertTrue(low <= frac(second[1]) and frac(second[0]) <= high)

    def test_greater_primes(self):
        # Each tells an answer here, and so the right one.
        curve, (P,) = GROUPS[1]
        for l in (5, 7, 11, 13):
            many = multiple(curve, l, P)
            try:
                self.assertIs(is_saturated(curve, (many,), l), False)
                self.assertIn(saturated(curve, (many,), l), ((P,), (opposite(curve, P),)))
            except TooGreat:
                self.assertGreater(l, 3)
        self.assertIs(is_saturated(curve, (multiple(curve, 5, P),), 5), False)
        self.assertIs(is_saturated(curve, (multiple(curve, 5, P),), 7), True)
        self.assertIs(is_saturated(curve, (multiple(curve, 6, P),), 19), True)
        curve, (P, Q) = GROUPS[4]
        bent = (added(curve, multiple(curve, 2, P), Q), added(curve, P, multiple(curve, -2, Q)))
        self.assertIs(is_saturated(curve, bent, 5), False)
        self.check_index(curve, (P, Q), self.check(curve, bent, 5), 1)


if __name__ == "__main__":
    unittest.main()
