import random
import unittest
from fractions import Fraction
from math import isqrt

from pointsum.curves import five, numbers_of
from pointsum.errors import TooGreat
from pointsum.fields import added_over
from pointsum.points import (
    added, ascending_points, halves, is_point, line_of, meets, multiple, opposite, point_modulo, thirds,
)
from tests.right_values import (
    frac, many_slowly, minus_slowly, order_of_points, pair, plus_slowly, right_point, told_point, whole_points_slowly,
)

# Curves of rank 1 and more with all five numbers in use, and plain ones.
CURVES = (
    (0, 0, 1, -1, 0), (0, 1, 1, -2, 0), (0, 0, 1, -7, 6), (1, -1, 1, -19, 26), (1, 0, 1, -14, -12), (1, 1, 0, -2, 1),
    (0, -1, 1, -10, -20), (0, 0, 0, -25, 0), (0, 0, 0, 0, 1), (0, 0, 0, -1, 0), (1, -1, 0, -4, 4), (3, 2, -5, -7, 11),
    (0, -25, 0), (2, -3, 0), (0, 0, -2), (1, -6, 0),
)

JUNK = (
    None, True, False, 0, 1, -7, "", "zero", [], [()], ((),), ((), ()), (0, 0), (1,), ((0, 1),), ((0, 1), (0, 1), (0, 1)),
    [(0, 1), (0, 1)], ([0, 1], (0, 1)), ((0, 1), [0, 1]), ((0, 1), 0), (0, (0, 1)), ("01", "01"), ((0, 1), "01"),
    ((False, 1), (0, 1)), ((0, True), (0, 1)), ((0, 1), (False, 1)), ((0, 1), (0, True)), ((0, -1), (0, 1)),
    ((0, 1), (0, -1)), ((0, 2), (0, 1)), ((0, 1), (0, 3)), ((0, 0), (0, 1)), ((0, 1), (0, 0)), ((0, 1, 1), (0, 1)),
    ((None, 1), (0, 1)), ((0, None), (0, 1)), ((0, 1), ("0", 1)), (((0, 1), (0, 1)), (0, 1)), ((0,), (0,)),
    ((2, 2), (0, 1)), ((0, 1), (-2, 2)),
)


def some_points(curve, rng, many=6):
    """Points of a curve: small whole ones, zero, and sums of them."""
    found = whole_points_slowly(five(curve), 60)
    out = [()]
    for _ in range(many):
        P = None
        for Q in rng.sample(found, min(len(found), 2)):
            P = plus_slowly(five(curve), P, many_slowly(five(curve), rng.choice((-2, -1, 1, 1, 2)), right_point(Q)))
        out.append(told_point(P))
    return out


def is_fraction_square(z):
    return z >= 0 and all(isqrt(n) ** 2 == n for n in (z.numerator, z.denominator))


class IsPointTest(unittest.TestCase):
    def test_junk(self):
        for curve in ((0, 0, 1, -1, 0), (0, -1, 0)):
            for value in JUNK:
                self.assertIs(is_point(curve, value), False, value)
            deep = ()
            for _ in range(100):
                deep = (deep,)
            self.assertIs(is_point(curve, deep), False)
            self.assertIs(is_point(curve, ((10 ** 2000, 1), (10 ** 2000, 7))), False)
            self.assertIs(is_point(curve, ((), (0, 1))), False)

    def test_points(self):
        rng = random.Random(1)
        for curve in CURVES:
            self.assertIs(is_point(curve, ()), True)
            for point in some_points(curve, rng)[1:]:
                self.assertIs(is_point(curve, point), True, (curve, point))
                if point != ():
                    x, y = point
                    self.assertIs(is_point(curve, [x, y]), False)
                    self.assertIs(is_point(curve, (list(x), y)), False)
                    self.assertIs(is_point(curve, ((2 * x[0], 2 * x[1]), y)), False)
                    self.assertIs(is_point(curve, (x, (-y[0], -y[1]))), False)
                    self.assertIs(is_point(curve, ((x[0] + 997 * x[1], x[1]), y)), False)

    def test_by_putting_in(self):
        for curve in CURVES[:6]:
            a1, a2, a3, a4, a6 = five(curve)
            for d in (1, 2, 4):
                for m in range(-9, 10):
                    for f in (1, 2, 8):
                        for n in range(-20, 21):
                            x, y = Fraction(m, d), Fraction(n, f)
                            right = y * y + a1 * x * y + a3 * y == x ** 3 + a2 * x * x + a4 * x + a6
                            self.assertIs(is_point(curve, (pair(x), pair(y))), right)

    def test_great_points(self):
        point = multiple((0, -25, 0), 56, ((-4, 1), (6, 1)))
        self.assertTrue(point[0][0] > 10 ** 2000)
        self.assertIs(is_point((0, -25, 0), point), True)
        self.assertIs(is_point((0, -25, 0), (point[0], (point[1][0] + 1, point[1][1]))), False)


class AddedTest(unittest.TestCase):
    def test_against_the_formula(self):
        rng = random.Random(2)
        for curve in CURVES:
            full, points = five(curve), some_points(curve, rng)
            for P in points:
                self.assertEqual(opposite(curve, P), told_point(minus_slowly(full, right_point(P))))
                for Q in points + [opposite(curve, P), P]:
                    told = added(curve, P, Q)
                    self.assertEqual(told, told_point(plus_slowly(full, right_point(P), right_point(Q))))
                    self.assertTrue(is_point(curve, told))

    def test_laws(self):
        rng = random.Random(3)
        for curve in CURVES:
            points = some_points(curve, rng, 4)
            for P in points:
                self.assertEqual(added(curve, P, ()), P)
                self.assertEqual(added(curve, (), P), P)
                self.assertEqual(added(curve, P, opposite(curve, P)), ())
                self.assertEqual(opposite(curve, opposite(curve, P)), P)
                for Q in points:
                    self.assertEqual(added(curve, P, Q), added(curve, Q, P))
                    for S in points:
                        left = added(curve, added(curve, P, Q), S)
                        self.assertEqual(left, added(curve, P, added(curve, Q, S)), (curve, P, Q, S))

    def test_example(self):
        P = ((-4, 1), (6, 1))
        self.assertEqual(added((0, -25, 0), P, P), ((1681, 144), (-62279, 1728)))
        self.assertEqual(added((0, 0, 0, -25, 0), P, P), ((1681, 144), (-62279, 1728)))

    def test_order_two_and_flexes(self):
        # (0, 0) of y y = x x x - x is of order two; (0, 1) of y y = x x x + 1 is a flex.
        self.assertEqual(added((0, -1, 0), ((0, 1), (0, 1)), ((0, 1), (0, 1))), ())
        self.assertEqual(added((0, -1, 0), ((0, 1), (0, 1)), ((1, 1), (0, 1))), ((-1, 1), (0, 1)))
        flex = ((0, 1), (1, 1))
        self.assertEqual(added((0, 0, 1), flex, flex), opposite((0, 0, 1), flex))
        self.assertEqual(opposite((0, 0, 1), flex), ((0, 1), (-1, 1)))
        # With a1 and a3: 2 y + a1 x + a3 is 0 at (1, -1) of y y + x y + y = x x x + x x - 3 x + 1.
        end = ((1, 1), (-1, 1))
        curve = (1, 1, 1, -3, 0)
        self.assertTrue(is_point(curve, end))
        self.assertEqual(opposite(curve, end), end)
        self.assertEqual(added(curve, end, end), ())


class MultipleTest(unittest.TestCase):
    def test_against_adding(self):
        rng = random.Random(4)
        for curve in CURVES:
            for P in some_points(curve, rng, 2):
                for n in range(-9, 10):
                    told = told_point(many_slowly(five(curve), n, right_point(P)))
                    self.assertEqual(multiple(curve, n, P), told, (curve, n, P))

    def test_edges(self):
        P = ((0, 1), (0, 1))
        curve = (0, 0, 1, -1, 0)
        self.assertEqual(multiple(curve, 0, P), ())
        self.assertEqual(multiple(curve, 1, P), P)
        self.assertEqual(multiple(curve, -1, P), ((0, 1), (-1, 1)))
        for n in (-60, -1, 0, 1, 60):
            self.assertEqual(multiple(curve, n, ()), ())

    def test_finite_order(self):
        # (2, 3) of y y = x x x + 1 has order six.
        P = ((2, 1), (3, 1))
        row = [(), P, ((0, 1), (1, 1)), ((-1, 1), (0, 1)), ((0, 1), (-1, 1)), ((2, 1), (-3, 1))]
        for n in range(-60, 61):
            self.assertEqual(multiple((0, 0, 1), n, P), row[n % 6])

    def test_too_great_exactly(self):
        # Points of one kind each: the first multiple beyond is found by adding.
        for curve, P in (
            ((0, -25, 0), ((-4, 1), (6, 1))), ((0, -36, 0), ((-3, 1), (9, 1))), ((0, 0, -2), ((3, 1), (5, 1))),
            ((3, -7, 11, 5, 8), None), ((1, 0, 1, -14, -12), None),
        ):
            if P is None:
                P = [Q for Q in whole_points_slowly(curve, 60) if Q[1] != (0, 1)][-1]
            P = multiple(curve, 2, P)
            place, beyond = (), 0
            for n in range(1, 61):
                place = added(curve, place, P)
                if place != () and max(abs(m) for f in place for m in f) > 10 ** 4000:
                    beyond += 1
                    for k in (n, -n):
                        with self.assertRaises(TooGreat) as caught:
                            multiple(curve, k, P)
                        self.assertEqual(caught.exception.what, "figures")
                    if beyond == 3:
                        break
                else:
                    self.assertEqual(multiple(curve, n, P), place)

    def test_just_at_the_limit(self):
        # The y of x ** 3 + c: a point of a curve made so that a number of it is 10 ** 4000 or one more.
        for shift in (-1, 0, 1):
            y = 10 ** 4000 + shift
            curve, P = (0, 0, 0, 0, y * y - 1), ((1, 1), (y, 1))
            if shift == 1:
                with self.assertRaises(TooGreat) as caught:
                    multiple(curve, 1, P)
                self.assertEqual(caught.exception.what, "figures")
                self.assertRaises(TooGreat, multiple, curve, -1, P)
            else:
                self.assertEqual(multiple(curve, 1, P), P)
                self.assertEqual(multiple(curve, -1, P), ((1, 1), (-y, 1)))

    def test_x_alone_beyond_the_limit(self):
        for x in (10 ** 4000, 10 ** 4000 + 1):
            curve, P = (0, 0, 0, -x * x, 0), ((-x, 1), (0, 1))
            self.assertEqual(multiple(curve, 2, P), ())
            if x == 10 ** 4000:
                self.assertEqual(multiple(curve, 1, P), P)
                self.assertEqual(multiple(curve, 59, P), P)
            else:
                self.assertRaises(TooGreat, multiple, curve, 1, P)

    def test_great_points_soon(self):
        great = multiple((0, -25, 0), 56, ((-4, 1), (6, 1)))
        for n in (2, 3, -31, 60):
            self.assertRaises(TooGreat, multiple, (0, -25, 0), n, great)
        self.assertEqual(multiple((0, -25, 0), -1, great), opposite((0, -25, 0), great))


class LineTest(unittest.TestCase):
    def test_none_and_up(self):
        curve, P = (0, 0, 1, -1, 0), ((0, 1), (0, 1))
        for points in (((), ()), (P, ()), ((), P)):
            self.assertIsNone(line_of(curve, *points))
        self.assertEqual(line_of(curve, P, opposite(curve, P)), ("up", (0, 1)))
        # The tangent of a point of order two.
        self.assertEqual(line_of((0, -1, 0), ((1, 1), (0, 1)), ((1, 1), (0, 1))), ("up", (1, 1)))
        self.assertEqual(line_of((0, -25, 0), ((-4, 1), (6, 1)), ((-4, 1), (6, 1))), ("line", (23, 12), (41, 3)))

    def test_lines_and_what_they_meet(self):
        rng = random.Random(5)
        for curve in CURVES:
            points = some_points(curve, rng, 4)[1:]
            for P in points:
                for Q in points + [opposite(curve, P), P]:
                    line = line_of(curve, P, Q)
                    if P == () or Q == ():
                        self.assertIsNone(line)
                        continue
                    third = opposite(curve, added(curve, P, Q))
                    self.assertEqual(line[0] == "up", third == ())
                    met = order_of_points([S for S in (P, Q, third) if S != ()])
                    self.assertEqual(meets(curve, line), met, (curve, line))
                    if line[0] == "up":
                        self.assertEqual(line, ("up", P[0]))
                    for S in met if line[0] == "line" else ():
                        x, y = frac(S[0]), frac(S[1])
                        self.assertEqual(y, frac(line[1]) * x + frac(line[2]))

    def test_flex(self):
        flex = ((0, 1), (1, 1))
        self.assertEqual(line_of((0, 0, 1), flex, flex), ("line", (0, 1), (1, 1)))
        self.assertEqual(meets((0, 0, 1), ("line", (0, 1), (1, 1))), (flex,) * 3)
        # Moved, so that a1 and a3 are not 0: y y + x y + y = x x x at (0, 0).
        self.assertEqual(meets((1, 0, 1, 0, 0), ("line", (0, 1), (0, 1))), (((0, 1), (0, 1)),) * 3)

    def test_tangents(self):
        # y = 23 / 12 x + 41 / 3 touches at (-4, 6).
        told = meets((0, -25, 0), ("line", (23, 12), (41, 3)))
        self.assertEqual(told, (((-4, 1), (6, 1)), ((-4, 1), (6, 1)), ((1681, 144), (62279, 1728))))
        # One that touches behind the third point.
        told = meets((0, -25, 0), line_of((0, -25, 0), ((45, 1), (300, 1)), ((45, 1), (300, 1))))
        self.assertEqual([S[0] for S in told], [(1681, 144), (45, 1), (45, 1)])

    def test_lines_that_meet_few_points(self):
        self.assertEqual(meets((0, 0, -2), ("line", (0, 1), (0, 1))), ())
        self.assertEqual(meets((0, -1, 0), ("up", (2, 1))), ())
        self.assertEqual(meets((0, -1, 0), ("up", (1, 2))), ())
        self.assertEqual(meets((0, -1, 0), ("up", (0, 1))), (((0, 1), (0, 1)),) * 2)
        self.assertEqual(meets((0, 0, 1, -1, 0), ("up", (0, 1))), (((0, 1), (-1, 1)), ((0, 1), (0, 1))))
        self.assertEqual(meets((0, 0, 1, -1, 0), ("up", (1, 4))), (((1, 4), (-5, 8)), ((1, 4), (-3, 8))))
        # y = x + 1 goes through (-1, 0), (0, 1), (2, 3) of y y = x x x + 1; y = 2 through one point alone.
        self.assertEqual([S[0][0] for S in meets((0, 0, 1), ("line", (1, 1), (1, 1)))], [-1, 0, 2])
        self.assertEqual(meets((0, 0, 3), ("line", (0, 1), (2, 1))), (((1, 1), (2, 1)),))
        self.assertEqual(meets((0, 0, 1), ("line", (1, 2), (1, 3))), ())


class PartsTest(unittest.TestCase):
    def test_halves_of_small_points(self):
        rng = random.Random(6)
        for curve in CURVES:
            zero = halves(curve, ())
            self.assertIn((), zero)
            for P in some_points(curve, rng, 3):
                told = halves(curve, added(curve, P, P))
                self.assertIn(P, told)
                self.assertEqual(told, order_of_points(added(curve, P, E) for E in zero))
                told = halves(curve, P)
                self.assertIn(len(told), (0, len(zero)))
                for Q in told:
                    self.assertEqual(added(curve, Q, Q), P)

    def test_thirds_of_small_points(self):
        rng = random.Random(7)
        for curve in CURVES + ((0, 0, 1, 0, 0), (1, 0, 1, 0, 0), (1, -1, 1, -14, 29), (0, 0, 16)):
            zero = thirds(curve, ())
            self.assertIn((), zero)
            for P in some_points(curve, rng, 2):
                told = thirds(curve, multiple(curve, 3, P))
                self.assertIn(P, told)
                self.assertEqual(told, order_of_points(added(curve, P, E) for E in zero))
                told = thirds(curve, P)
                self.assertIn(len(told), (0, len(zero)))
                for Q in told:
                    self.assertEqual(multiple(curve, 3, Q), P)

    def test_one_and_three_points_of_order_two(self):
        ends = tuple(((x, 1), (0, 1)) for x in (-5, 0, 5))
        self.assertEqual(halves((0, -25, 0), ()), ((),) + ends)
        self.assertEqual(halves((0, 0, 1), ()), ((), ((-1, 1), (0, 1))))
        self.assertEqual(halves((0, 0, -2), ()), ((),))
        # The x of a point of order two need not be whole, and it may have halves.
        curve = (1, 1, 1, -10, -10)
        self.assertEqual(halves(curve, ()), ((), ((-13, 4), (9, 8)), ((-1, 1), (0, 1)), ((3, 1), (-2, 1))))
        self.assertEqual(len(halves(curve, ((3, 1), (-2, 1)))), 4)
        self.assertEqual(halves(curve, ((-1, 1), (0, 1))), ())
        for end in ends:
            self.assertEqual(halves((0, -25, 0), end), ())

    def test_doubles_are_squares(self):
        # With three points of order two: a point is a double exactly if all x - e are squares.
        curve, rng = (0, -25, 0), random.Random(8)
        for P in some_points(curve, rng, 12)[1:]:
            if P == ():
                continue
            x = frac(P[0])
            squares = all(is_fraction_square(z) for z in (x, x - 5, x + 5))
            self.assertEqual(halves(curve, P) != (), squares)

    def test_thirds_of_zero(self):
        self.assertEqual(thirds((0, 0, 1), ()), ((), ((0, 1), (-1, 1)), ((0, 1), (1, 1))))
        self.assertEqual(thirds((0, -1, 0), ()), ((),))
        self.assertEqual(thirds((0, 0, 1), ((0, 1), (1, 1))), ())
        # Of order nine.
        nine = ((3, 1), (1, 1))
        self.assertEqual(multiple((1, -1, 1, -14, 29), 9, nine), ())
        self.assertEqual(len(thirds((1, -1, 1, -14, 29), multiple((1, -1, 1, -14, 29), 3, nine))), 3)

    def test_great_points(self):
        curve, P = (0, -25, 0), ((-4, 1), (6, 1))
        great = multiple(curve, 55, P)
        self.assertEqual(halves(curve, great), ())
        self.assertEqual(thirds(curve, great), ())
        self.assertEqual(thirds(curve, multiple(curve, 54, P)), (multiple(curve, 18, P),))
        self.assertIn(multiple(curve, 27, P), halves(curve, multiple(curve, 54, P)))


class OrderTest(unittest.TestCase):
    def test_ascending(self):
        rng = random.Random(10)
        for _ in range(100):
            points = [tuple(pair(Fraction(rng.randint(-9, 9), rng.randint(1, 9))) for _ in range(2)) for _ in range(6)]
            points.append((points[0][0], points[1][1]))
            self.assertEqual(tuple(ascending_points(points)), order_of_points(points))


class ModuloTest(unittest.TestCase):
    def test_sums_to_sums(self):
        rng = random.Random(9)
        for curve in CURVES:
            D = numbers_of(curve)[6]
            for p in [p for p in (2, 3, 5, 7, 11, 13, 101, 10007) if D % p]:
                points = some_points(curve, rng, 4)
                digits = tuple(n % p for n in five(curve))
                for P in points:
                    told = point_modulo(curve, P, p)
                    for Q in points + [P, opposite(curve, P)]:
                        both = point_modulo(curve, added(curve, P, Q), p)
                        self.assertEqual(both, added_over(p, digits, told, point_modulo(curve, Q, p)))
                    if P == () or P[0][1] % p == 0:
                        self.assertEqual(told, ())
                        continue
                    x, y = told
                    self.assertTrue(0 <= x < p and 0 <= y < p)
                    self.assertEqual((x * P[0][1] - P[0][0]) % p, 0)
                    self.assertEqual((y * P[1][1] - P[1][0]) % p, 0)
                    a1, a2, a3, a4, a6 = digits
                    self.assertEqual((y * y + a1 * x * y + a3 * y - x ** 3 - a2 * x * x - a4 * x - a6) % p, 0)

    def test_examples(self):
        double = ((1681, 144), (-62279, 1728))
        self.assertEqual(point_modulo((0, -25, 0), double, 3), ())
        self.assertEqual(point_modulo((0, -25, 0), double, 7), (1681 * pow(144, -1, 7) % 7, -62279 * pow(1728, -1, 7) % 7))
        self.assertEqual(point_modulo((0, 0, 1, -1, 0), ((1, 4), (-3, 8)), 2), ())
        self.assertEqual(point_modulo((0, 0, 1, -1, 0), ((1, 1), (-1, 1)), 2), (1, 1))
        self.assertEqual(point_modulo((0, 0, 1, -1, 0), ((6, 1), (-15, 1)), 3), (0, 0))
        self.assertEqual(point_modulo((0, 0, 1, -1, 0), (), 2), ())


if __name__ == "__main__":
    unittest.main()
