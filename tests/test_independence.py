import random
import time
import unittest
from itertools import product

from pointsum.curves import plain_form
from pointsum.errors import BadNumber, TooGreat
from pointsum.finite import finite_basis, finite_part, order_of
from pointsum.independence import are_shown, basis_modulo, relations, shown_by
from pointsum.points import added, multiple
from pointsum.search import box_of
from tests.right_values import is_prime_slowly
from tests.test_finite import some_plain

RANK_TWO = (0, 0, 17)
P, Q = ((-2, 1), (3, 1)), ((-1, 1), (4, 1))
E = (0, -25, 0)
S = ((-4, 1), (6, 1))
ENDS = (((-5, 1), (0, 1)), ((0, 1), (0, 1)), ((5, 1), (0, 1)))


def plus_over(p, a, A, B):
    """The sum of two points of y y = x x x + a x x + .. over p, () for zero."""
    if A == () or B == ():
        return A or B
    if A[0] == B[0] and (A[1] + B[1]) % p == 0:
        return ()
    if A == B:
        k = (3 * A[0] ** 2 + 2 * a[0] * A[0] + a[1]) * pow(2 * A[1], -1, p)
    else:
        k = (B[1] - A[1]) * pow(B[0] - A[0], -1, p)
    x = (k * k - a[0] - A[0] - B[0]) % p
    return (x, (k * (A[0] - x) - A[1]) % p)


def times_over(p, a, n, A):
    out = ()
    for _ in range(n):
        out = plus_over(p, a, out, A)
    return out


def relations_slowly(curve, points, l, primes):
    """All relations by the words of the document, l times each point being looked at."""
    a, b, c = curve
    found = []
    for row in product(range(l), repeat=len(points)):
        if any(row) and all(is_kept(curve, points, l, p, row) for p in primes):
            found.append(row)
    return tuple(found)


def is_kept(curve, points, l, p, row):
    a, b, c = curve
    group = [()] + [(x, y) for x in range(p) for y in range(p) if (y * y - x ** 3 - a * x * x - b * x - c) % p == 0]
    place = ()
    for point, n in zip(points, row):
        if point == () or point[0][1] % p == 0:
            digits = ()
        else:
            digits = tuple(m * pow(d, -1, p) % p for m, d in point)
        place = plus_over(p, curve, place, times_over(p, curve, n, digits))
    return any(times_over(p, curve, l, A) == place for A in group)


def good_primes(curve, most):
    a, b, c = curve
    d = a * a * b * b - 4 * b ** 3 - 4 * a ** 3 * c - 27 * c * c + 18 * a * b * c
    return [p for p in range(3, most) if is_prime_slowly(p) and d % p]


class RelationsTest(unittest.TestCase):
    def test_by_the_words(self):
        rng = random.Random(1)
        empty = full = 0
        for _ in range(120):
            curve = some_plain(rng, 20) if rng.random() < 0.5 else rng.choice((RANK_TWO, E, (1, -6, 0), (0, 0, -2), (0, -82, 0)))
            box = box_of(curve, 40)
            l = rng.choice((2, 2, 2, 3, 3, 5))
            points = tuple(rng.choice(box) for _ in range(rng.randint(1, 3 if l == 2 else 2)))
            primes = tuple(rng.sample(good_primes(curve, 30), min(rng.randint(0, 3), len(good_primes(curve, 30)))))
            told = relations(curve, points, l, primes)
            self.assertEqual(told, relations_slowly(curve, points, l, primes), (curve, points, l, primes))
            empty += told == ()
            full += len(told) == l ** len(points) - 1
        self.assertTrue(empty > 3 and full > 3)

    def test_no_primes_and_no_points(self):
        self.assertEqual(relations(RANK_TWO, (P,), 3, ()), ((1,), (2,)))
        self.assertEqual(relations(RANK_TWO, (P, Q), 2, ()), ((0, 1), (1, 0), (1, 1)))
        self.assertEqual(len(relations(RANK_TWO, (P, Q), 31, ())), 960)
        self.assertEqual(relations(RANK_TWO, (), 2, ()), ())
        self.assertEqual(relations(RANK_TWO, (), 2, (5, 7)), ())

    def test_dependent_points(self):
        # Whatever primes: 2 P has the relation (1,) modulo 2, P and P + 2 Q have (1, 1).
        primes = tuple(good_primes(RANK_TWO, 200))
        self.assertEqual(relations(RANK_TWO, (added(RANK_TWO, P, P),), 2, primes), ((1,),))
        other = added(RANK_TWO, P, added(RANK_TWO, Q, Q))
        self.assertEqual(relations(RANK_TWO, (P, other), 2, primes), ((1, 1),))
        both = added(RANK_TWO, P, Q)
        self.assertEqual(relations(RANK_TWO, (P, Q, both), 3, primes), ((1, 1, 2), (2, 2, 1)))
        self.assertEqual(relations(RANK_TWO, (P, Q), 2, primes), ())
        self.assertEqual(relations(RANK_TWO, ((), P), 3, primes), ((1, 0), (2, 0)))
        # Three points of order two, of which one is the sum of the others.
        self.assertEqual(relations(E, ENDS, 2, tuple(good_primes(E, 200))), ((1, 1, 1),))

    def test_order_of_the_points_and_lower_parts(self):
        # 3 divides the lower part of the x of 2 S: it is () there.
        double = added(E, S, S)
        self.assertEqual(relations(E, (double, S), 2, (3,)), relations_slowly(E, (double, S), 2, (3,)))
        self.assertEqual(relations(E, (S, double), 2, (3, 7, 11)), relations_slowly(E, (S, double), 2, (3, 7, 11)))

    def test_great_numbers(self):
        great = multiple(E, 41, S)
        primes = (3, 7, 11, 13)
        self.assertEqual(relations(E, (great,), 2, primes), relations(E, (S,), 2, primes))
        self.assertEqual(relations(RANK_TWO, (P, Q), 31, (997, 991, 983)), relations(RANK_TWO, (P, Q), 31, (983, 991, 997)))

    def test_errors_in_order(self):
        for primes, bad in (
            ((2,), 2), ((3, 17), 3), ((5, 17, 2), 17), ((5, 9, 2), 9), ((1,), 1), ((0,), 0), ((-5,), -5), ((1009,), 1009),
            ((997, 1001, 4), 1001), ((10 ** 30 + 57,), 10 ** 30 + 57),
        ):
            for l, points in ((2, (P, Q)), (31, (P, Q, P))):
                with self.assertRaises(BadNumber) as caught:
                    relations(RANK_TWO, points, l, primes)
                self.assertEqual(caught.exception.number, bad)
        for l, many in ((2, 12), (3, 8), (5, 5), (7, 5), (13, 4), (31, 3)):
            with self.assertRaises(TooGreat) as caught:
                relations(RANK_TWO, (P,) * many, l, (5, 7))
            self.assertEqual(caught.exception.what, "tuples")
            self.assertTrue(relations(RANK_TWO, (P,) * (many - 1), l, (5, 7)))


class BasisTest(unittest.TestCase):
    def test_examples(self):
        self.assertEqual(basis_modulo((0, 0, -2), 2), ())
        self.assertEqual(basis_modulo((0, 0, 1), 5), ())
        for l in (2, 3):
            self.assertEqual(basis_modulo((0, 0, 1), l), finite_basis((0, 0, 1))[1:])
        self.assertEqual(basis_modulo(E, 2), finite_basis(E))
        self.assertEqual(basis_modulo(E, 3), ())
        # Of the form (2, 6): for 3 the second point alone.
        curve = plain_form((1, 0, 1, -19, 26))[0]
        self.assertEqual(basis_modulo(curve, 3), finite_basis(curve)[1:])
        for curve in (curve, (0, -1, 0), (0, 4, 0), (0, 0, 4), (-15, 32, 256), (-4, 0, 16)):
            basis = finite_basis(curve)
            for l in (2, 3, 5, 7, 11):
                right = tuple(point for point in basis if order_of(curve, point) % l == 0)
                self.assertEqual(basis_modulo(curve, l), right)
                # So many as make T modulo l T.
                part = finite_part(curve)
                image = {multiple(curve, l, point) for point in part}
                self.assertEqual(len(part), len(image) * l ** len(right))


class ShownTest(unittest.TestCase):
    def test_are_shown(self):
        self.assertIs(are_shown(RANK_TWO, (P, Q), 2, ()), False)
        l, primes = shown_by(RANK_TWO, (P, Q))
        self.assertIs(are_shown(RANK_TWO, (P, Q), l, primes), True)
        # The points of finite order stand behind: S and the ends of order two.
        primes = tuple(good_primes(E, 100))
        self.assertIs(are_shown(E, (S,), 2, primes), True)
        self.assertIs(are_shown(E, (ENDS[0],), 2, primes), False)
        self.assertIs(are_shown(E, (ENDS[0],), 3, primes), False)
        self.assertIs(are_shown(E, (added(E, added(E, S, S), ENDS[1]),), 2, primes), False)
        self.assertEqual(relations(E, (added(E, added(E, S, S), ENDS[1]),), 2, primes), ())
        self.assertIs(are_shown((0, 0, -2), (), 2, ()), True)
        self.assertIs(are_shown(E, (), 2, ()), False)
        for points, l in (((S,), 2), ((S,), 3), ((), 2)):
            right = relations(E, points + basis_modulo(E, l), l, (3, 7, 11)) == ()
            self.assertIs(are_shown(E, points, l, (3, 7, 11)), right)

    def test_errors(self):
        with self.assertRaises(BadNumber) as caught:
            are_shown(E, (S,), 2, (3, 5, 2))
        self.assertEqual(caught.exception.number, 5)
        # 2 ** 11 is let, with the two of the basis it is 2 ** 13.
        self.assertIs(are_shown(RANK_TWO, (P,) * 11, 2, (5,)), False)
        with self.assertRaises(TooGreat) as caught:
            are_shown(E, (S,) * 11, 2, (3,))
        self.assertEqual(caught.exception.what, "tuples")
        self.assertIs(are_shown(E, (S,) * 9, 2, (3,)), False)
        with self.assertRaises(BadNumber) as caught:
            are_shown(E, (S,) * 11, 2, (3, 4))
        self.assertEqual(caught.exception.number, 4)

    def check(self, curve, points):
        told = shown_by(curve, points)
        if told is not None:
            l, primes = told
            self.assertIn(l, (2, 3, 5, 7))
            self.assertTrue(isinstance(primes, tuple) and all(p <= 500 for p in primes))
            self.assertIs(are_shown(curve, points, l, primes), True)
        return told is not None

    def test_shown_by(self):
        self.assertTrue(self.check(RANK_TWO, (P,)))
        self.assertTrue(self.check(RANK_TWO, (P, Q)))
        self.assertTrue(self.check(E, (S,)))
        self.assertTrue(self.check(RANK_TWO, ()))
        self.assertTrue(self.check(E, ()))
        # A double is shown by another l; twice the product of all l by none.
        self.assertTrue(self.check(RANK_TWO, (added(RANK_TWO, P, P), Q)))
        self.assertTrue(self.check(RANK_TWO, (multiple(RANK_TWO, 30, P),)))
        curve = (0, -16, 16)
        for n, m, l in ((7, 15, 2), (7, 10, 3), (7, 6, 5), (5, 6, 7), (14, 15, None)):
            points = (multiple(curve, n, multiple(curve, m, ((0, 1), (4, 1)))),)
            self.assertEqual(self.check(curve, points), l is not None)
            if l is not None:
                self.assertEqual(shown_by(curve, points)[0], l)
        # Three independent points.
        three = tuple(((x, 1), (y, 1)) for x, y in ((-1, -9), (-8, -12), (-9, -3)))
        self.assertTrue(self.check((0, -82, 0), three))
        self.assertFalse(self.check((0, -82, 0), three[:2] + (added((0, -82, 0), three[0], three[1]),)))

    def test_none(self):
        self.assertFalse(self.check(E, (ENDS[0],)))
        self.assertFalse(self.check(E, (S, ENDS[1])))
        self.assertFalse(self.check(RANK_TWO, (P, P)))
        self.assertFalse(self.check(RANK_TWO, (P, Q, added(RANK_TWO, P, Q))))
        self.assertFalse(self.check(RANK_TWO, ((),)))
        self.assertFalse(self.check((0, 0, 1), (((2, 1), (3, 1)),)))
        self.assertFalse(self.check(E, (S, added(E, S, ENDS[2]))))

    def is_told(self, curve, points):
        """Whether some l and primes up to 500 show the points, by the words: all primes at once show what some show."""
        primes = tuple(good_primes(curve, 501))
        for l in (2, 3, 5, 7):
            if l ** (len(points) + len(basis_modulo(curve, l))) <= 3000 and are_shown(curve, points, l, primes):
                return True
        return False

    def test_none_exactly_if_there_is_none(self):
        rng = random.Random(2)
        told = set()
        for at in range(24):
            curve = rng.choice((RANK_TWO, E, (0, 0, -2), (0, -82, 0), (0, 0, 1), (1, -6, 0), (-15, 32, 256), some_plain(rng, 12)))
            box, finite = box_of(curve, 60), finite_part(curve)
            points = [
                added(curve, multiple(curve, rng.choice((1, 1, 2, 3)), rng.choice(box)), rng.choice(finite))
                for _ in range(rng.randint(1, 3))
            ]
            if at % 3 == 0:
                points.append(added(curve, multiple(curve, rng.randint(-4, 4), points[0]), rng.choice(finite)))
            points = tuple(points)
            self.assertEqual(self.check(curve, points), self.is_told(curve, points), (curve, points))
            told.add(self.is_told(curve, points))
        self.assertEqual(told, {True, False})

    def test_points_of_finite_order(self):
        for curve in ((0, -1, 0), (0, 0, 1), (0, 4, 0), (0, 0, 4), (-15, 32, 256), plain_form((1, 0, 1, -19, 26))[0], E):
            for point in finite_part(curve):
                self.assertIsNone(shown_by(curve, (point,)))
        self.assertIsNone(shown_by((0, -1, 0), (((0, 1), (0, 1)),)))
        for end in ENDS:
            self.assertIsNone(shown_by(E, (S, end)))
            self.assertIsNone(shown_by(E, (end, S)))

    def test_multiples(self):
        self.assertIsNone(shown_by((0, 0, -2), (((3, 1), (5, 1)), ((129, 100), (-383, 1000)))))
        for curve, point in (((0, 0, -2), ((3, 1), (5, 1))), (RANK_TWO, P), (E, S), ((0, -16, 16), ((0, 1), (4, 1)))):
            for n in list(range(-9, 10)) + [12, 16, 25, 30, -31]:
                self.assertIsNone(shown_by(curve, (point, multiple(curve, n, point))))
                self.assertIsNone(shown_by(curve, (multiple(curve, n, point), point)))
        # Neither is a multiple of the other.
        for n, m in ((2, 3), (6, 10), (15, 14), (-9, 7)):
            self.assertIsNone(shown_by(E, (multiple(E, n, S), multiple(E, m, S))))

    def test_multiples_and_points_of_finite_order(self):
        six = (0, 0, 9)
        for curve, point in ((E, S), ((0, 0, 225), ((4, 1), (17, 1))), (six, ((-2, 1), (1, 1))), ((0, -82, 0), ((-1, 1), (9, 1)))):
            for end in finite_part(curve):
                for n in (1, -1, 2, 3, -4, 5, 7, 10):
                    self.assertIsNone(shown_by(curve, (point, added(curve, multiple(curve, n, point), end))))
                    self.assertIsNone(shown_by(curve, (added(curve, multiple(curve, n, point), end), added(curve, point, end))))

    def test_three_dependent_points(self):
        rng = random.Random(3)
        for _ in range(60):
            rows = [[rng.randint(-6, 6) for _ in range(2)] for _ in range(3)]
            points = tuple(added(RANK_TWO, multiple(RANK_TWO, n, P), multiple(RANK_TWO, m, Q)) for n, m in rows)
            self.assertIsNone(shown_by(RANK_TWO, points), rows)

    def test_dependent_points_take_no_long_time(self):
        # Each call took a quarter of a second, when all primes were asked.
        start = time.process_time()
        for n in range(2, 22):
            for curve, point in (((0, 0, -2), ((3, 1), (5, 1))), (E, S), (RANK_TWO, P), (RANK_TWO, Q), ((0, -16, 16), ((0, 1), (4, 1)))):
                self.assertIsNone(shown_by(curve, (point, multiple(curve, n, point))))
                self.assertIsNone(shown_by((0, -1, 0), (((0, 1), (0, 1)),)))
        self.assertLess(time.process_time() - start, 12)

    def test_too_many_points(self):
        # For 2 ** k above 3,000 none is told.
        self.assertIsNone(shown_by(RANK_TWO, (P,) * 12))


if __name__ == "__main__":
    unittest.main()
