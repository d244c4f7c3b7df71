import random
import unittest
from itertools import product
from math import gcd, prod

from pointsum.fields import added_over, multiple_over, points_over
from pointsum.groups import basis, is_basis, log_over, order_over, span_size, structure, with_order
from tests.test_fields import some_over

PRIMES = (2, 2, 3, 3, 5, 7, 11, 13, 17, 19, 23, 31, 37, 43)
JUNK = (
    None, True, False, 0, 1, -1, "", "ab", (0,), (None,), ("ab",), (0, 0), [()], [], ((0,),), ((0, 0, 0),), (("0", "1"),), ((None, 1),),
    ((True, False),), (((0, 1),),), ([0, 1],), ((0, 1), None), ((10 ** 1999, 0),), ((-1, 0),), ((), ()), ((),),
)


def order_slowly(p, curve, P):
    order, place = 1, P
    while place != ():
        place = added_over(p, curve, place, P)
        order += 1
    return order


def spanned_slowly(p, curve, points):
    """All sums of multiples of points."""
    found = {()}
    for P in points:
        row = [multiple_over(p, curve, k, P) for k in range(order_slowly(p, curve, P))]
        found = {added_over(p, curve, place, other) for place in found for other in row}
    return found


def structure_by_counts(p, curve, points):
    """The structure by the numbers of points killed by powers of primes."""
    many = len(points)
    numbers = [1] * 10
    for q in [q for q in range(2, many + 1) if many % q == 0 and all(q % k for k in range(2, q))]:
        e, ahead = 1, 1
        while True:
            killed = sum(multiple_over(p, curve, q ** e, P) == () for P in points)
            f = 0
            while ahead * q ** (f + 1) <= killed:
                f += 1
            if f == 0:
                break
            for k in range(f):
                numbers[k] *= q
            e, ahead = e + 1, killed
    return tuple(n for n in reversed(numbers) if n > 1)


class OrderTest(unittest.TestCase):
    def test_all_points(self):
        rng = random.Random(1)
        for p in PRIMES:
            for _ in range(4):
                curve = some_over(p, rng)
                for P in points_over(p, curve):
                    self.assertEqual(order_over(p, curve, P), order_slowly(p, curve, P))

    def test_great_primes(self):
        rng = random.Random(2)
        for p in (997, 9973):
            curve = some_over(p, rng)
            points = points_over(p, curve)
            for P in rng.sample(points, 3):
                order = order_over(p, curve, P)
                self.assertEqual(multiple_over(p, curve, order, P), ())
                self.assertEqual(len(points) % order, 0)
                for q in range(2, order + 1):
                    if order % q == 0 and all(q % k for k in range(2, q)):
                        self.assertNotEqual(multiple_over(p, curve, order // q, P), ())


class StructureTest(unittest.TestCase):
    def test_by_counts(self):
        rng = random.Random(3)
        sizes = set()
        for p in PRIMES + (61, 73):
            for _ in range(5):
                curve = some_over(p, rng)
                points = points_over(p, curve)
                told = structure(p, curve)
                self.assertEqual(told, structure_by_counts(p, curve, points), (p, curve))
                self.assertEqual(prod(told), len(points))
                sizes.add(len(told))
                for k in (1, 2, 3, 4, 6, 7, 12, len(points), rng.randrange(1, 2000), 10 ** 40):
                    killed = sum(multiple_over(p, curve, k, P) == () for P in points)
                    self.assertEqual(with_order(p, curve, k), killed)
                    self.assertEqual(killed, prod(gcd(k, n) for n in told))
        self.assertEqual(sizes, {0, 1, 2})

    def test_known_ones(self):
        # Over 2: y y + y = x x x has 3 points, y y + y = x x x + x + 1 has one.
        self.assertEqual(structure(2, (0, 0, 1, 0, 0)), (3,))
        self.assertEqual(structure(2, (0, 0, 1, 1, 1)), ())
        self.assertEqual(structure(3, (0, 0, 0, 2, 0)), (2, 2))
        self.assertEqual(structure(3, (0, 0, 0, 2, 2)), ())
        # y y = x x x + x over 5, with (0, 0), (2, 0), (3, 0).
        self.assertEqual(structure(5, (0, 0, 0, 1, 0)), (2, 2))
        self.assertEqual(structure(7, (0, 0, 0, 0, 2)), (3, 3))

    def test_great_prime(self):
        rng = random.Random(4)
        for p in (499, 997):
            for _ in range(4):
                curve = some_over(p, rng)
                told = structure(p, curve)
                self.assertEqual(prod(told), len(points_over(p, curve)))
                self.assertTrue(len(told) < 2 or told[1] % told[0] == 0)
                self.assertIs(is_basis(p, curve, basis(p, curve)), True)


class BasisTest(unittest.TestCase):
    def test_is_one(self):
        rng = random.Random(5)
        for p in PRIMES:
            for _ in range(5):
                curve = some_over(p, rng)
                told, numbers = basis(p, curve), structure(p, curve)
                self.assertIsInstance(told, tuple)
                self.assertEqual(tuple(order_slowly(p, curve, P) for P in told), numbers)
                self.assertEqual(len(spanned_slowly(p, curve, told)), len(points_over(p, curve)))
                self.assertIs(is_basis(p, curve, told), True)

    def test_all_tuples(self):
        # By the words: each member is a sum in just one way, the orders are those of the structure.
        rng = random.Random(6)
        right = wrong = 0
        for p in (2, 3, 5, 7, 7, 13):
            for _ in range(4):
                curve = some_over(p, rng)
                points, numbers = points_over(p, curve), structure(p, curve)
                for many in range(3):
                    for value in product(points, repeat=many):
                        is_one = tuple(order_slowly(p, curve, P) for P in value) == numbers
                        is_one = is_one and len(spanned_slowly(p, curve, value)) == len(points)
                        self.assertIs(is_basis(p, curve, value), is_one, (p, curve, value))
                        right, wrong = right + is_one, wrong + (not is_one)
        self.assertTrue(right > 20 and wrong > 200)

    def test_order_of_the_points(self):
        # (2, 6) and not (6, 2).
        rng = random.Random(7)
        many = 0
        while many < 3:
            curve = some_over(31, rng)
            numbers = structure(31, curve)
            if len(numbers) == 2 and numbers[0] != numbers[1]:
                many += 1
                P, Q = basis(31, curve)
                self.assertIs(is_basis(31, curve, (P, Q)), True)
                self.assertIs(is_basis(31, curve, (Q, P)), False)
                self.assertIs(is_basis(31, curve, (P, Q, ())), False)
                self.assertIs(is_basis(31, curve, [P, Q]), False)
                self.assertIs(is_basis(31, curve, (list(P), Q)), False)
                self.assertIs(is_basis(31, curve, (Q,)), False)

    def test_one_element(self):
        self.assertEqual(basis(2, (0, 0, 1, 1, 1)), ())
        self.assertIs(is_basis(2, (0, 0, 1, 1, 1), ()), True)
        self.assertIs(is_basis(2, (0, 0, 1, 1, 1), ((),)), False)
        self.assertIs(is_basis(2, (0, 0, 1, 0, 0), ()), False)

    def test_junk(self):
        for p, curve in ((2, (0, 0, 1, 0, 0)), (5, (0, 0, 0, 1, 0)), (7, (0, 0, 0, 0, 2)), (997, (0, 0, 1, 996, 0))):
            for value in JUNK:
                self.assertIs(is_basis(p, curve, value), False, value)


class SpanTest(unittest.TestCase):
    def test_spans(self):
        rng = random.Random(8)
        for p in PRIMES + (61,):
            curve = some_over(p, rng)
            points = points_over(p, curve)
            self.assertEqual(span_size(p, curve, ()), 1)
            self.assertEqual(span_size(p, curve, ((),)), 1)
            self.assertEqual(span_size(p, curve, points), len(points))
            for _ in range(6):
                some = tuple(rng.choice(points) for _ in range(rng.randint(1, 4)))
                self.assertEqual(span_size(p, curve, some), len(spanned_slowly(p, curve, some)))
                self.assertEqual(span_size(p, curve, (some[0], some[0])), order_slowly(p, curve, some[0]))


class LogTest(unittest.TestCase):
    def test_least_one(self):
        rng = random.Random(9)
        nones = 0
        for p in PRIMES + (61, 73):
            for _ in range(2):
                curve = some_over(p, rng)
                points = points_over(p, curve)
                for P in rng.sample(points, min(6, len(points))):
                    row = [multiple_over(p, curve, k, P) for k in range(order_slowly(p, curve, P))]
                    for Q in points:
                        right = row.index(Q) if Q in row else None
                        self.assertEqual(log_over(p, curve, P, Q), right)
                        nones += right is None
        self.assertGreater(nones, 50)

    def test_zero(self):
        curve = (0, 0, 0, 1, 0)
        self.assertEqual(log_over(5, curve, (), ()), 0)
        self.assertIsNone(log_over(5, curve, (), (0, 0)))
        self.assertEqual(log_over(5, curve, (0, 0), ()), 0)
        self.assertEqual(log_over(5, curve, (0, 0), (0, 0)), 1)
        self.assertIsNone(log_over(5, curve, (0, 0), (2, 0)))

    def test_great_primes(self):
        rng = random.Random(10)
        for p in (997, 9973):
            curve = some_over(p, rng)
            points = points_over(p, curve)
            for _ in range(5):
                P = rng.choice(points)
                order = order_over(p, curve, P)
                k = rng.randrange(order)
                self.assertEqual(log_over(p, curve, P, multiple_over(p, curve, k, P)), k)
                self.assertEqual(log_over(p, curve, P, multiple_over(p, curve, order - 1, P)), (order - 1) % order)


if __name__ == "__main__":
    unittest.main()
