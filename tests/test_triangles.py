import random
import unittest
from fractions import Fraction

from pointsum.finite import finite_part
from pointsum.fractions import is_fraction
from pointsum.lists import found_points, rank_bounds
from pointsum.points import added, is_point, multiple, opposite
from pointsum.search import box_of
from pointsum.triangles import (
    angled_of, concord_curve, concord_of, concord_point, cubes_curve, cubes_of, cubes_point, is_triangle, squares_in_steps,
    sum_of, triangle_curve, triangle_of, triangle_point,
)
from tests.right_values import frac, pair

F = Fraction
AREAS = (5, 6, 7, 13, 14, 15, 20, 21, 22, 24, 30, 34)


def told(*numbers):
    return tuple(pair(F(n)) for n in numbers)


def area_points(n):
    """Points of the curve of n with y not 0: a found one, its multiples and these with points of order two."""
    curve = triangle_curve(n)
    P = found_points(curve, 60)[0]
    points = [P, opposite(curve, P), multiple(curve, 2, P), multiple(curve, -3, P)]
    return [added(curve, Q, end) for Q in points for end in finite_part(curve)]


class TriangleTest(unittest.TestCase):
    def test_examples(self):
        self.assertEqual(triangle_curve(6), (0, -36, 0))
        self.assertEqual(triangle_point(6, told(3, 4, 5)), told(12, 36))
        five = told(F(3, 2), F(20, 3), F(41, 6))
        self.assertEqual(triangle_point(5, five), told(F(25, 4), F(75, 8)))
        self.assertEqual(triangle_of(6, told(12, 36)), told(3, 4, 5))
        self.assertEqual(triangle_of(5, told(F(25, 4), F(75, 8))), five)

    def test_there_and_back(self):
        for n in AREAS:
            curve = triangle_curve(n)
            for P in area_points(n):
                x, y = frac(P[0]), frac(P[1])
                a, b, c = (x * x - n * n) / y, 2 * n * x / y, (x * x + n * n) / y
                self.assertEqual((a * a + b * b, a * b), (c * c, 2 * n))
                # With all signs the triple leads back; triangle_of tells amounts.
                self.assertEqual(triangle_point(n, told(a, b, c)), P)
                triangle = triangle_of(n, P)
                self.assertEqual(triangle, told(*sorted((abs(a), abs(b))), abs(c)))
                self.assertIs(is_triangle(n, triangle), True)
                self.assertTrue(is_point(curve, triangle_point(n, triangle)))
                self.assertEqual(triangle_of(n, triangle_point(n, triangle)), triangle)

    def test_eight_points(self):
        # (a, b, c) with all signs that keep a b, and exchanged.
        for n, (a, b, c) in ((6, (3, 4, 5)), (5, (F(3, 2), F(20, 3), F(41, 6)))):
            curve = triangle_curve(n)
            P = triangle_point(n, told(a, b, c))
            signed = [(a, b, c), (a, b, -c), (-a, -b, c), (-a, -b, -c), (b, a, c), (b, a, -c), (-b, -a, c), (-b, -a, -c)]
            found = {triangle_point(n, told(*triple)) for triple in signed}
            right = {added(curve, Q, end) for Q in (P, opposite(curve, P)) for end in finite_part(curve)}
            self.assertEqual(found, right)
            self.assertEqual(len(found), 8)
            self.assertEqual({triangle_of(n, Q) for Q in found}, {told(a, b, c)})

    def test_no_triangle(self):
        for n in (1, 2, 5, 6, 100):
            for P in ((), told(0, 0), told(n, 0), told(-n, 0)):
                self.assertIsNone(triangle_of(n, P))

    def test_points_of_finite_order(self):
        for n in range(1, 101):
            right = ((), told(-n, 0), told(0, 0), told(n, 0))
            self.assertEqual(finite_part(triangle_curve(n)), right)

    def test_is_triangle(self):
        self.assertIs(is_triangle(6, told(3, 4, 5)), True)
        self.assertIs(is_triangle(6, told(4, 3, 5)), True)
        five = told(F(20, 3), F(3, 2), F(41, 6))
        self.assertIs(is_triangle(5, five), True)
        for n, value in (
            (5, told(3, 4, 5)), (6, told(3, 5, 4)), (6, told(-3, -4, 5)), (6, told(3, 4, -5)), (6, told(3, 4)), (6, told(3, 4, 5, 0)),
            (6, told(2, 6, 5)), (6, (3, 4, 5)), (6, ((6, 2), (4, 1), (5, 1))), (6, ((3, 1), (4, 1), (5, True))), (6, [*told(3, 4, 5)]),
            (6, ([3, 1], (4, 1), (5, 1))), (6, None), (6, ()), (6, "345"), (6, ((-3, -1), (4, 1), (5, 1))), (6, (None,) * 3),
            (6, ((3, 1), (4, 1), ())), (24, told(6, 8, 11)), (6, told(1, 12, 5)), (6, True), (6, ((3, 0), (4, 1), (5, 1))),
        ):
            self.assertIs(is_triangle(n, value), False, value)
        self.assertIs(is_triangle(24, told(6, 8, 10)), True)

    def test_squares_in_steps(self):
        self.assertEqual(squares_in_steps(6, told(3, 4, 5)), told(F(1, 4), F(25, 4), F(49, 4)))
        self.assertEqual(squares_in_steps(6, told(4, 3, 5)), told(F(1, 4), F(25, 4), F(49, 4)))
        for n in AREAS:
            for P in area_points(n)[:3]:
                a, b, c = map(frac, triangle_of(n, P))
                right = (((a - b) / 2) ** 2, (c / 2) ** 2, ((a + b) / 2) ** 2)
                self.assertEqual(squares_in_steps(n, triangle_of(n, P)), told(*right))
                self.assertEqual((right[1] - right[0], right[2] - right[1]), (n, n))


PAIRS = (
    (-5, 5), (-6, 6), (3, -5), (7, 12), (9, 25), (-7, 8), (16, 81), (1, -24), (5, 21), (25, 144), (-34, 34), (1, 7), (-41, 41),
)


class ConcordTest(unittest.TestCase):
    def points(self, m, n):
        curve = concord_curve(m, n)
        box = [P for P in box_of(curve, 300) if P != ()]
        return box + [added(curve, P, P) for P in box[:12]] + [()]

    def test_curve(self):
        self.assertEqual(concord_curve(-5, 5), (0, -25, 0))
        self.assertEqual(concord_curve(3, -5), (-2, -15, 0))

    def test_by_squares(self):
        found = nones = 0
        for m, n in PAIRS:
            curve = concord_curve(m, n)
            for P in self.points(m, n):
                told_one = concord_of(m, n, P)
                if P == () or P[0] == (0, 1):
                    self.assertIsNone(told_one)
                    continue
                x = frac(P[0])
                roots = [self.root(x), self.root(x + m), self.root(x + n)]
                if None in roots:
                    nones += 1
                    self.assertIsNone(told_one)
                else:
                    found += 1
                    self.assertEqual(told_one, told(*roots))
                    self.assertIn(concord_point(m, n, told_one), (P, opposite(curve, P)))
        self.assertTrue(found > 20 and nones > 50)

    def root(self, x):
        if x < 0:
            return None
        r = F(round(x.numerator ** 0.5), round(x.denominator ** 0.5))
        return r if r * r == x else None

    def test_doubles(self):
        for m, n in PAIRS:
            curve = concord_curve(m, n)
            for P in box_of(curve, 100):
                double = added(curve, P, P)
                told_one = concord_of(m, n, double)
                self.assertEqual(told_one is None, double == () or double[0] == (0, 1))

    def test_u_and_v_nought(self):
        # t t = 9 = - m: u is 0.
        self.assertEqual(concord_of(-9, 16, told(9, 0)), told(3, 0, 5))
        self.assertEqual(concord_point(-9, 16, told(3, 0, 5)), told(9, 0))
        self.assertEqual(concord_of(16, -9, told(9, 0)), told(3, 5, 0))

    def test_none_of_order_two(self):
        for m, n in PAIRS:
            self.assertIsNone(concord_of(m, n, told(0, 0)))
            self.assertIsNone(concord_of(m, n, ()))

    def test_angles(self):
        # c c = a a + b b - 2 a b r / s and a b = 2 q s from the concords of (q (r + s), q (r - s)).
        self.assertEqual(angled_of(told(3, 5, 0)), told(5, 5, 6))
        many = 0
        for r, s, q in ((0, 1, 6), (0, 1, 5), (1, 2, 5), (-1, 2, 5), (-1, 2, 1), (1, 2, 10), (3, 5, 3), (2, 3, 4), (-3, 5, 1), (1, 2, 6)):
            m, n = q * (r + s), q * (r - s)
            curve = concord_curve(m, n)
            for P in box_of(curve, 200):
                concord = concord_of(m, n, added(curve, P, P))
                if concord is not None:
                    a, b, c = map(frac, angled_of(concord))
                    self.assertEqual(c * c, a * a + b * b - 2 * a * b * F(r, s))
                    self.assertEqual(a * b, 2 * q * s)
                    t, u, v = map(frac, concord)
                    self.assertEqual((a, b, c), (u + v, u - v, 2 * t))
                    many += 1
        self.assertGreater(many, 10)

    def test_boxes(self):
        # 44, 117, 240: a a + b b, a a + c c are squares for a = 44.
        curve = concord_curve(9, 25)
        for P in box_of(curve, 200):
            concord = concord_of(9, 25, added(curve, P, P))
            if concord is not None:
                t, u, v = map(frac, concord)
                self.assertEqual((u * u, v * v), (t * t + 9, t * t + 25))
        self.assertEqual(concord_of(117 ** 2, 240 ** 2, concord_point(117 ** 2, 240 ** 2, told(44, 125, 244))), told(44, 125, 244))


class CubesTest(unittest.TestCase):
    def test_known(self):
        self.assertEqual(cubes_curve(1), (0, 0, -432))
        self.assertEqual(cubes_curve(-4), (0, 0, -6912))
        # 1 + 0, 0 + 1 and 1 + 1; x = 0 or y = 0 too.
        self.assertEqual(cubes_point(1, told(1, 0)), told(12, 36))
        self.assertEqual(cubes_point(1, told(0, 1)), told(12, -36))
        self.assertEqual(cubes_point(2, told(1, 1)), told(12, 0))
        self.assertEqual(cubes_of(2, told(12, 0)), told(1, 1))
        self.assertEqual(cubes_of(1, told(12, 36)), told(1, 0))
        self.assertIsNone(cubes_of(1, ()))
        self.assertIsNone(cubes_of(-3, ()))

    def test_there_and_back(self):
        rng = random.Random(1)
        for _ in range(60):
            x, y = F(rng.randint(-30, 30), rng.randint(1, 9)), F(rng.randint(-30, 30), rng.randint(1, 9))
            cubes = x ** 3 + y ** 3
            if cubes == 0 or cubes.denominator != 1:
                continue
            n = int(cubes)
            point = cubes_point(n, told(x, y))
            self.assertEqual(point, told(12 * n / (x + y), 36 * n * (x - y) / (x + y)))
            self.assertTrue(is_point((0, 0, -432 * n * n), point))
            self.assertEqual(cubes_of(n, point), told(x, y))

    def test_small_numbers(self):
        # The only solutions for 1, 2, 3, 4 are those of finite order.
        right = {1: {told(1, 0), told(0, 1)}, 2: {told(1, 1)}, 3: set(), 4: set()}
        for n in (1, 2, 3, 4):
            for m in (n, -n):
                curve = cubes_curve(m)
                found = {cubes_of(m, P) for P in box_of(curve, 500) if P != ()}
                signed = {tuple((k * f[0], f[1]) for f in row) for row in right[n] for k in (m // n,)}
                self.assertEqual(found, signed)
                for row in found:
                    self.assertEqual(sum(frac(f) ** 3 for f in row), m)


class SumTest(unittest.TestCase):
    def test_triangles(self):
        for n in AREAS[:5]:
            curve = triangle_curve(n)
            points = area_points(n)
            triples = []
            for P in points:
                x, y = frac(P[0]), frac(P[1])
                triples.append((P, told((x * x - n * n) / y, 2 * n * x / y, (x * x + n * n) / y)))
            for P, first in triples[:6]:
                for Q, second in triples:
                    right = triangle_of(n, added(curve, P, Q))
                    self.assertEqual(sum_of(("triangle", n), first, second), right)
        # A triangle and that with c turned are opposites, up to a point of order two.
        self.assertIsNone(sum_of(("triangle", 6), told(3, 4, 5), told(3, 4, -5)))
        self.assertIsNone(sum_of(("triangle", 6), told(3, 4, 5), told(-4, -3, 5)))
        self.assertEqual(sum_of(("triangle", 6), told(3, 4, 5), told(3, 4, 5)), told(F(7, 10), F(120, 7), F(1201, 70)))

    def test_concords(self):
        many = nones = 0
        for m, n in PAIRS:
            curve = concord_curve(m, n)
            doubles = [multiple(curve, k, P) for P in box_of(curve, 100) for k in (2, 4)]
            concords = sorted({concord_of(m, n, P) for P in doubles} - {None})
            for first in concords:
                for second in concords:
                    total = added(curve, concord_point(m, n, first), concord_point(m, n, second))
                    told_one = sum_of(("concord", m, n), first, second)
                    self.assertEqual(told_one, concord_of(m, n, total))
                    # A sum of doubles is one again.
                    self.assertEqual(told_one is None, total == () or total[0] == (0, 1))
                    many, nones = many + 1, nones + (told_one is None)
        self.assertGreater(many, 10)

    def test_sum_of_concords_that_is_none(self):
        # (0, 0) is a double if m and n are squares: (12, 12 * 5 * ..) of (9, 16).
        m, n = 9, 16
        curve = concord_curve(m, n)
        halves = [P for P in box_of(curve, 500) if P and added(curve, P, P) == told(0, 0)]
        self.assertTrue(halves)
        for P in halves:
            self.assertIsNone(concord_of(m, n, added(curve, P, P)))

    def test_cubes(self):
        self.assertIsNone(sum_of(("cubes", 1), told(1, 0), told(0, 1)))
        self.assertEqual(sum_of(("cubes", 1), told(1, 0), told(1, 0)), told(0, 1))
        self.assertIsNone(sum_of(("cubes", 2), told(1, 1), told(1, 1)))
        # 7 = 8 - 1, 9 = 8 + 1 are beyond the told n, but go as well.
        for n, row in ((7, told(2, -1)), (9, told(2, 1))):
            double = sum_of(("cubes", n), row, row)
            self.assertEqual(sum(frac(f) ** 3 for f in double), n)
            curve = (0, 0, -432 * n * n)
            self.assertEqual(cubes_point(n, double), multiple(curve, 2, cubes_point(n, row)))
            third = sum_of(("cubes", n), double, row)
            self.assertEqual(cubes_point(n, third), multiple(curve, 3, cubes_point(n, row)))

    def test_rank_tells_triangles(self):
        for n in range(1, 25):
            low, high = rank_bounds(triangle_curve(n), 200)
            has_one = any(triangle_of(n, P) for P in box_of(triangle_curve(n), 400))
            if high == 0:
                self.assertFalse(has_one)
            if has_one:
                self.assertGreater(low, 0)
                triangle = next(triangle_of(n, P) for P in box_of(triangle_curve(n), 400) if triangle_of(n, P))
                self.assertTrue(all(is_fraction(side) for side in triangle))


if __name__ == "__main__":
    unittest.main()
