import random
import unittest

from pointsum.errors import WrongForm
from pointsum.finite import finite_part
from pointsum.lists import rank_bounds
from pointsum.search import box_of
from pointsum.twomaps import beside
from pointsum.wholepoints import all_points, all_whole, whole_within
from tests.right_values import whole_points_slowly
from tests.test_finite import some_plain
from tests.test_lists import CURVES, some_curve


def whole_slowly(curve, B):
    a, b, c = curve
    return tuple((x[0], y[0]) for x, y in whole_points_slowly((0, a, 0, b, c), B))


class WithinTest(unittest.TestCase):
    def test_by_trying(self):
        rng = random.Random(1)
        for _ in range(60):
            curve = some_plain(rng, rng.choice((5, 40, 10000)))
            for B in (0, 1, 2, 15, 300):
                self.assertEqual(whole_within(curve, B), whole_slowly(curve, B), (curve, B))

    def test_bound_nought(self):
        self.assertEqual(whole_within((0, 0, 9), 0), ((0, -3), (0, 3)))
        self.assertEqual(whole_within((0, -1, 0), 0), ((0, 0),))
        self.assertEqual(whole_within((0, 0, -2), 0), ())

    def test_ends_of_the_bound(self):
        # y y = x x x + 17 has 5234 as the greatest x.
        self.assertEqual(whole_within((0, 0, 17), 5233), whole_slowly((0, 0, 17), 60))
        told = whole_within((0, 0, 17), 5234)
        self.assertEqual(told[-2:], ((5234, -378661), (5234, 378661)))
        self.assertEqual(whole_within((0, 0, 17), 100000), told)
        # x = - B as well: y y = (x + 100) (x x + 1).
        self.assertEqual(whole_within((100, 1, 100), 100)[0], (-100, 0))
        self.assertNotIn((-100, 0), whole_within((100, 1, 100), 99))

    def test_greatest_bound(self):
        for curve in ((0, -25, 0), (0, 0, -2), (-10000, 10000, 1)):
            told = whole_within(curve, 100000)
            self.assertEqual([pair for pair in told if abs(pair[0]) <= 400], list(whole_slowly(curve, 400)))
            a, b, c = curve
            self.assertTrue(all(y * y == x ** 3 + a * x * x + b * x + c for x, y in told))

class AllPointsTest(unittest.TestCase):
    def test_example(self):
        self.assertEqual(all_points((0, -1, 0)), ((), ((-1, 1), (0, 1)), ((0, 1), (0, 1)), ((1, 1), (0, 1))))
        self.assertEqual(all_whole((0, -1, 0)), ((-1, 0), (0, 0), (1, 0)))
        self.assertEqual(all_whole((0, 4, 0)), ((0, 0), (2, -4), (2, 4)))

    def test_rank_nought_and_others(self):
        rng = random.Random(2)
        told = 0
        for curve in list(CURVES) + [some_curve(rng, 40) for _ in range(60)] + [beside(some_curve(rng, 20)) for _ in range(10)]:
            upper = rank_bounds(curve, 5)[1]
            if upper != 0:
                self.assertIsNone(all_points(curve))
                self.assertIsNone(all_whole(curve))
                continue
            told += 1
            self.assertEqual(all_points(curve), finite_part(curve))
            self.assertTrue(set(box_of(curve, 400)) <= set(all_points(curve)))
            whole = tuple((x[0], y[0]) for x, y in all_points(curve)[1:])
            self.assertEqual(all_whole(curve), whole)
            self.assertTrue(set(whole_within(curve, 3000)) <= set(whole))
        self.assertGreater(told, 15)

    def test_open_numbers(self):
        # The rank is 0, but the upper number is 2.
        self.assertIsNone(all_points((0, 17, 0)))
        self.assertIsNone(all_whole((0, 17, 0)))

    def test_wrong_form(self):
        for curve in ((0, 0, 1), (0, 0, -2), (1, 2, 3)):
            self.assertRaises(WrongForm, all_points, curve)
            self.assertRaises(WrongForm, all_whole, curve)


if __name__ == "__main__":
    unittest.main()
