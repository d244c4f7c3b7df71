import random
import unittest

from pointsum.primes import is_prime, is_shown, shown
from pointsum.walks import walk
from tests.right_values import (
    GREAT, GREAT_CERT, OTHER, OTHER_CERT, PROTH, PROTH_CERT, SMALL, added_slowly, is_prime_slowly, points_slowly, times_slowly,
)

JUNK = (
    None, True, False, 0, 1, 2, -1, 10 ** 1999, "", "small", "prime", (), [], ("",), (None,), (True,), (1,), ((),),
    ([],), ["small"], [("small",)], ("small", 1), ("small", None), (("small",),), ("Small",), ("unit", 0), ("factor",),
    ("factor", None), ("factor", "2"), ("factor", True), ("factor", (2,)), ("factor", 2, 3), ("witness",),
    ("witness", [2]), ("witness", True), ("witness", -1), ("witness", 10 ** 1999), ("powers",), ("powers", ()),
    ("powers", []), ("powers", 7), ("powers", None), ("powers", "rows"), ("powers", ((),)), ("powers", (7,)),
    ("powers", ((2, 1, 3),)), ("powers", ((2, 1, 3, SMALL, SMALL),)), ("powers", (2, 1, 3, SMALL)),
    ("powers", (("2", 1, 3, SMALL),)), ("powers", ((2, None, 3, SMALL),)), ("powers", ((2, 1, [3], SMALL),)),
    ("powers", ((2, 10 ** 1999, 3, SMALL),)), ("powers", ((10 ** 1999, 1, 3, SMALL),)), ("powers", [(2, 4, 3, SMALL)]),
    ("curve",), ("curve", (0, 1), (0, 1), 1, 7), ("curve", (0, 1), (0, 1), 1, 7, SMALL, SMALL),
    ("curve", None, None, None, None, None), ("curve", (0,), (0, 1), 1, 7, SMALL), ("curve", [0, 1], (0, 1), 1, 7, SMALL),
    ("curve", (0, 1), (0, 1, 2), 1, 7, SMALL), ("curve", (0, 1), "ab", 1, 7, SMALL), ("curve", "", (), "", "", ""),
    ("curve", ("a", "b"), (0, 1), 1, 7, SMALL), ("curve", (0, 1), ((), ()), 1, 7, SMALL),
    ("curve", (False, True), (False, True), 1, 7, SMALL),
)


def nested(value, many):
    for _ in range(many):
        value = (value,)
    return value


def bent(value, path, put):
    """A value with another one in the place that a path of indexes tells."""
    if path == ():
        return put
    at = path[0]
    return value[:at] + (bent(value[at], path[1:], put),) + value[at + 1:]


def places(value, path=()):
    """All places of a value, as paths."""
    yield path
    if isinstance(value, tuple):
        for at, part in enumerate(value):
            yield from places(part, path + (at,))


def at_place(value, path):
    for at in path:
        value = value[at]
    return value


def step_right(n, value):
    """Whether a curve step is right for a prime n but for CERT, all points being added one by one."""
    _, (a, b), (x, y), c, q, _ = value
    if not all(0 <= u < n for u in (a, b, x, y)) or c < 1 or q < 2 or n % 2 == 0 or n % 3 == 0:
        return False
    if (4 * a ** 3 + 27 * b * b) % n == 0 or (y * y - x ** 3 - a * x - b) % n or (q - 1) ** 2 <= 4 * n:
        return False
    Q = times_slowly(n, a, c, (x, y))
    return Q is not None and times_slowly(n, a, q, Q) is None


def step_for(p, want, rng):
    """A curve step (a, b), (x, y), c, q for a prime p with a q that is wanted, by looking."""
    while True:
        a, b = rng.randrange(p), rng.randrange(p)
        if (4 * a ** 3 + 27 * b * b) % p == 0:
            continue
        points = points_slowly(p, a, b)
        many = len(points) + 1
        for c in range(1, 40):
            q = many // c
            if many % c == 0 and (q - 1) ** 2 > 4 * p and is_prime_slowly(q) and want(q, c):
                for P in points:
                    if walk(p, a, P, c)[1] != ():
                        return ((a, b), P, c, q)


def small_chain(p, many):
    """A certificate for p with so many curve steps, through primes near it."""
    rng = random.Random(many)
    steps = []
    for _ in range(many):
        step = step_for(p, lambda q, c: q > 300 and c < 3, rng)
        steps.append(step)
        p = step[3]
    cert = SMALL
    for step in reversed(steps):
        cert = ("curve", *step, cert)
    return cert


class NotPrimeTest(unittest.TestCase):
    def test_unit(self):
        for n in range(-3, 20):
            self.assertEqual(is_shown(n, ("unit",)), "not" if n in (0, 1) else None)

    def test_factor(self):
        for n in range(60):
            for d in range(-2, n + 3):
                right = 1 < d < n and n % d == 0
                self.assertEqual(is_shown(n, ("factor", d)), "not" if right else None, (n, d))
        self.assertEqual(is_shown(10 ** 40, ("factor", 10 ** 20)), "not")
        self.assertIsNone(is_shown(10 ** 40, ("factor", 10 ** 40)))
        self.assertIsNone(is_shown(10 ** 40, ("factor", 3)))

    def test_witness(self):
        for n in range(120):
            s, t = 0, n - 1
            while t > 0 and t % 2 == 0:
                s, t = s + 1, t // 2
            for a in range(-2, n + 3):
                right = n % 2 == 1 and 2 <= a <= n - 2
                if right:
                    right = pow(a, t, n) != 1 and all(pow(a, t * 2 ** k, n) != n - 1 for k in range(s))
                self.assertEqual(is_shown(n, ("witness", a)), "not" if right else None, (n, a))
        n = (10 ** 20 - 11) * (10 ** 20 - 27)
        self.assertEqual(is_shown(n, ("witness", 2)), "not")
        self.assertIsNone(is_shown(GREAT, ("witness", 2)))
        self.assertIsNone(is_shown(3825123056546413051, ("witness", 31)))
        self.assertEqual(is_shown(3825123056546413051, ("witness", 37)), "not")


class PrimeFormsTest(unittest.TestCase):
    def test_small(self):
        for n in list(range(-2, 300)) + list(range(10 ** 6 - 30, 10 ** 6 + 30)):
            right = is_prime_slowly(n) and n < 10 ** 6
            self.assertEqual(is_shown(n, SMALL), "prime" if right else None, n)
        self.assertEqual(is_shown(999983, SMALL), "prime")
        self.assertIsNone(is_shown(1000003, SMALL))

    def test_powers(self):
        # 1013 - 1 = 4 * 11 * 23: 23 * 44 is enough, 4 * 11 is as well, 23 alone is not.
        self.assertTrue(is_prime_slowly(1013))
        two, eleven, last = (2, 2, 3, SMALL), (11, 1, 3, SMALL), (23, 1, 3, SMALL)
        for rows in ((two, eleven), (two, last), (eleven, last), (two, eleven, last), ((2, 1, 3, SMALL), last)):
            self.assertEqual(is_shown(1013, ("powers", rows)), "prime", rows)
        for rows in (
            (last,), (two,), (eleven, two), (last, eleven), (two, two, last), (two, (23, 2, 3, SMALL)),
            ((2, 3, 3, SMALL), last), ((2, 0, 3, SMALL), eleven, last), (two, (23, 1, 0, SMALL)),
            (two, (23, 1, 1013 + 3, SMALL)), (two, (23, 1, 1, SMALL)), ((4, 1, 3, SMALL), last), (two, (253, 1, 3, SMALL)),
            ((2, 1, 3, SMALL), (2, 1, 3, SMALL), last), ((2, 2, 4, SMALL), eleven, last), ((1, 1, 3, SMALL), two, eleven), ((-2, 2, 3, SMALL), eleven, last),
        ):
            self.assertIsNone(is_shown(1013, ("powers", rows)), rows)

    def test_powers_just_enough(self):
        # F F has to be above n: 13 - 1 = 4 * 3, 4 * 4 is above 13, 3 * 3 and 2 * 2 are not.
        self.assertEqual(is_shown(13, ("powers", ((2, 2, 2, SMALL),))), "prime")
        self.assertIsNone(is_shown(13, ("powers", ((3, 1, 2, SMALL),))))
        self.assertIsNone(is_shown(13, ("powers", ((2, 1, 2, SMALL),))))
        self.assertIsNone(is_shown(5, ("powers", ((2, 1, 2, SMALL),))))
        self.assertEqual(is_shown(5, ("powers", ((2, 2, 2, SMALL),))), "prime")
        self.assertIsNone(is_shown(2, ("powers", ((2, 1, 1, SMALL),))))
        self.assertIsNone(is_shown(1, ("powers", ((2, 1, 1, SMALL),))))
        self.assertIsNone(is_shown(0, ("powers", ((2, 1, 1, SMALL),))))

    def test_powers_and_each_a(self):
        for n in (13, 31, 101, 91, 65, 341):
            for q in (2, 3, 5, 7, 11):
                e = 0
                while (n - 1) % q ** (e + 1) == 0:
                    e += 1
                if e == 0 or q ** (2 * e) <= n:
                    continue
                for a in range(-1, n + 2):
                    right = 1 <= a <= n - 1 and pow(a, n - 1, n) == 1
                    if right:
                        right = all((pow(a, (n - 1) // q, n) - 1) % d for d in range(2, n + 1) if n % d == 0)
                    self.assertEqual(is_shown(n, ("powers", ((q, e, a, SMALL),))), "prime" if right else None, (n, a))

    def test_powers_of_primes_that_are_none(self):
        # F = 91 of 547 - 1 = 6 * 91 would be enough, but 91 is not prime.
        for a in range(2, 546):
            self.assertIsNone(is_shown(547, ("powers", ((91, 1, a, SMALL),))))

    def test_great(self):
        self.assertEqual(is_shown(PROTH, PROTH_CERT), "prime")
        self.assertEqual(is_shown(GREAT, GREAT_CERT), "prime")
        self.assertEqual(is_shown(OTHER, OTHER_CERT), "prime")
        self.assertIsNone(is_shown(GREAT, OTHER_CERT))
        self.assertIsNone(is_shown(GREAT, PROTH_CERT))
        self.assertIsNone(is_shown(PROTH, GREAT_CERT))
        self.assertIsNone(is_shown(GREAT - 2, GREAT_CERT))

    def test_a_curve_behind_powers_and_back(self):
        rng = random.Random(1)
        # 2027 = 2 * 1013 + 1, 1013 by a curve step, its q by powers.
        step = step_for(1013, lambda q, c: q > 60, rng)
        inner = ("powers", tuple((p, e, a, SMALL) for p, e, a in rows_for(step[3])))
        self.assertEqual(is_shown(step[3], inner), "prime")
        for cert, want in ((inner, "prime"), (("powers", ()), None), (("factor", 2), None), (("unit",), None)):
            value = ("powers", ((1013, 1, 4, ("curve", *step, cert)),))
            self.assertEqual(is_shown(2027, value), want, cert)


def rows_for(q):
    """Rows (p, e, a) of all factors of q - 1, q a small prime."""
    out = []
    rest, p = q - 1, 2
    while rest > 1:
        e = 0
        while rest % p == 0:
            rest, e = rest // p, e + 1
        if e:
            out.append((p, e, next(a for a in range(2, q) if pow(a, (q - 1) // p, q) != 1)))
        p += 1
    return out


class CurveStepTest(unittest.TestCase):
    def test_example_of_1009(self):
        counts_b, counts_a = set(), set()
        for k in range(1, 40):
            counts_b.add(len(points_slowly(1009, k, 0)) + 1)
            counts_a.add(len(points_slowly(1009, 0, k)) + 1)
        self.assertEqual(counts_b, {1040, 980, 1066, 954})
        self.assertEqual(counts_a, {1053, 967, 1072, 948, 1029, 991})
        for c, q in ((1, 967), (16, 67), (12, 79), (1, 991)):
            value = self.step_of_1009(c, q)
            self.assertEqual(is_shown(1009, value), "prime", (c, q))
            self.assertIsNone(is_shown(1013, value))
        # 61 is no prime that is great enough: 60 * 60 is below 4036; 980 = 20 * 49, 1029 = 21 * 49.
        for c, q in ((18, 53), (26, 41), (81, 13)):
            self.assertIsNone(is_shown(1009, self.step_of_1009(c, q)), (c, q))

    def step_of_1009(self, c, q):
        for k in range(1, 40):
            for curve in ((k, 0), (0, k)):
                points = points_slowly(1009, *curve)
                if len(points) + 1 == c * q:
                    for P in points:
                        Q = times_slowly(1009, curve[0], c, P)
                        if Q is not None and times_slowly(1009, curve[0], q, Q) is None:
                            return ("curve", curve, P, c, q, SMALL)
        self.fail("no curve")

    def test_all_values_of_one_small_step(self):
        # Over 7 all a, b, x, y and small c, q; (q - 1) ** 2 above 28 wants q from 7 on.
        right = 0
        for a in range(-1, 8):
            for b in range(-1, 8):
                for x in range(-1, 8):
                    for y in range(-1, 8):
                        for c, q in ((1, 7), (1, 11), (1, 13), (2, 7), (0, 7), (-1, 7), (1, 5), (7, 7)):
                            value = ("curve", (a, b), (x, y), c, q, SMALL)
                            want = "prime" if step_right(7, value) else None
                            right += want is not None
                            self.assertEqual(is_shown(7, value), want, value)
        self.assertGreater(right, 20)

    def test_numbers_that_no_step_is_for(self):
        for n in [n for n in range(1, 60) if n < 5 or not is_prime_slowly(n)] + [77, 91]:
            for a in range(0, min(n, 6)):
                for x in range(0, min(n, 6)):
                    for y in range(0, min(n, 6)):
                        b = (y * y - x ** 3 - a * x) % n
                        for q in (7, 11, 13, 17, 19, 23):
                            self.assertIsNone(is_shown(n, ("curve", (a, b), (x, y), 1, q, SMALL)))

    def test_q_that_is_just_not_great_enough(self):
        # (q - 1) ** 2 is at most 4 n, (q + 1) ** 2 is above it; and the next n below, for which q is enough.
        rng = random.Random(5)
        seen = set()
        for n in [n for n in range(100, 420) if is_prime_slowly(n)]:
            for q in (23, 29, 31, 37, 41):
                if not (q - 2) ** 2 < 4 * n < (q + 1) ** 2:
                    continue
                for _ in range(60):
                    a, b = rng.randrange(n), rng.randrange(n)
                    points = points_slowly(n, a, b)
                    if (4 * a ** 3 + 27 * b * b) % n == 0 or (len(points) + 1) % q != 0:
                        continue
                    c = (len(points) + 1) // q
                    for P in points:
                        if walk(n, a, P, c)[1] != ():
                            right = (q - 1) ** 2 > 4 * n
                            told = is_shown(n, ("curve", (a, b), P, c, q, SMALL))
                            self.assertEqual(told, "prime" if right else None, (n, a, b, P, c, q))
                            seen.add(told)
                            break
        self.assertEqual(seen, {"prime", None})

    def test_curves_that_are_none(self):
        # y y = x x x has n - 1 pairs and O modulo n, and sums as a curve has; so q = n would do.
        for n in (7, 101, 1009):
            self.assertEqual(walk(n, 0, (1, 1), n), ("point", ()))
            self.assertIsNone(is_shown(n, ("curve", (0, 0), (1, 1), 1, n, SMALL)))
        # y y = (x - 1) (x - 1) (x + 2) has n - 1 or n + 1 of both.
        many = 0
        for n in [n for n in range(100, 1200) if is_prime_slowly(n)]:
            for many_points in (n - 1, n + 1):
                for c in (2, 4, 6, 12):
                    q = many_points // c
                    if many_points % c or not is_prime_slowly(q) or (q - 1) ** 2 <= 4 * n:
                        continue
                    P = next(P for P in points_slowly(n, n - 3, 2) if P[0] not in (1, n - 2))
                    if walk(n, n - 3, P, c)[1] != () and walk(n, n - 3, P, c * q) == ("point", ()):
                        many += 1
                        self.assertIsNone(is_shown(n, ("curve", (n - 3, 2), P, c, q, SMALL)))
        self.assertGreater(many, 5)

    def test_steps_of_5(self):
        value = None
        for a in range(5):
            for P in [(x, y) for x in range(5) for y in range(5)]:
                b = (P[1] ** 2 - P[0] ** 3 - a * P[0]) % 5
                if step_right(5, ("curve", (a, b), P, 1, 7, SMALL)):
                    value = ("curve", (a, b), P, 1, 7, SMALL)
                    self.assertEqual(is_shown(5, value), "prime")
        self.assertIsNotNone(value)

    def test_a_q_that_is_no_prime(self):
        rng = random.Random(3)
        while True:
            p = 1009
            a, b = rng.randrange(p), rng.randrange(p)
            points = points_slowly(p, a, b)
            q = len(points) + 1
            if (4 * a ** 3 + 27 * b * b) % p and not is_prime_slowly(q):
                break
        for cert in (SMALL, ("factor", 2), ("powers", ())):
            self.assertIsNone(is_shown(p, ("curve", (a, b), points[0], 1, q, cert)))

    def test_great_c(self):
        _, curve, P, c, q, _ = self.step_of_1009(16, 67)
        many = c * q
        for more in (many, many * 10 ** 30, many * 10 ** 1990):
            self.assertEqual(is_shown(1009, ("curve", curve, P, c + more, q, SMALL)), "prime")
            self.assertIsNone(is_shown(1009, ("curve", curve, P, more, q, SMALL)))
        self.assertIsNone(is_shown(1009, ("curve", curve, P, c, q + many, SMALL)))
        self.assertIsNone(is_shown(1009, ("curve", curve, P, c, 10 ** 1990 + 67, SMALL)))

    def test_long_chains(self):
        for many in (1, 2, 20, 95):
            cert = small_chain(1009, many)
            self.assertEqual(is_shown(1009, cert), "prime", many)
            path = (5,) * many
            self.assertEqual(at_place(cert, path), SMALL)
            self.assertIsNone(is_shown(1009, bent(cert, path, ("small", 1))))
            self.assertIsNone(is_shown(1009, bent(cert, path, ["small"])))
            self.assertIsNone(is_shown(1009, bent(cert, path, ("factor", 2))))
            self.assertIsNone(is_shown(1009, bent(cert, path[:-1] + (3,), 0)))
        long = small_chain(1009, 60)
        p = next(p for p in range(2019, 10 ** 6, 2018) if is_prime(p))
        value = ("powers", ((1009, 1, next(a for a in range(2, 99) if pow(a, (p - 1) // 1009, p) != 1), long),))
        self.assertEqual(is_shown(p, value), "prime")


class BentTest(unittest.TestCase):
    """Right certificates of each form, changed in one place."""

    def check(self, n, cert):
        self.assertEqual(is_shown(n, cert), "prime")
        for path in places(cert):
            part = at_place(cert, path)
            puts = [None, True, [], (), "x", -1, 0, [part], (part,)]
            if isinstance(part, tuple):
                puts += [list(part), part + (1,)]
                # Fewer rows may be enough.
                puts += [part[:-1], part[1:]] if not isinstance(part[0], tuple) else []
            for put in puts:
                if type(put) is type(part) and put == part:
                    continue
                told = is_shown(n, bent(cert, path, put))
                self.assertIsNone(told, (path, put))

    def test_all_places(self):
        self.check(PROTH, PROTH_CERT)
        self.check(GREAT, GREAT_CERT)
        self.check(10 ** 20 - 11, shown(10 ** 20 - 11))
        self.check(1013, ("powers", ((2, 2, 3, SMALL), (11, 1, 3, SMALL), (23, 1, 3, SMALL))))

    def test_numbers_of_the_great_one(self):
        for depth in range(7):
            path = (5,) * depth
            for at in ((1, 0), (1, 1), (2, 0), (2, 1), (3,), (4,)):
                old = at_place(GREAT_CERT, path + at)
                for put in (old + 1, old - 1, old + 2, 2 * old + 1):
                    self.assertIsNone(is_shown(GREAT, bent(GREAT_CERT, path + at, put)), (depth, at, put))
        y = GREAT_CERT[2][1]
        self.assertEqual(is_shown(GREAT, bent(GREAT_CERT, (2, 1), GREAT - y)), "prime")
        self.assertIsNone(is_shown(GREAT, bent(GREAT_CERT, (2, 1), GREAT + y)))
        self.assertIsNone(is_shown(GREAT, bent(GREAT_CERT, (2, 1), y - GREAT)))


class JunkTest(unittest.TestCase):
    def test_no_certificates(self):
        for n in (0, 1, 2, 3, 4, 5, 7, 9, 13, 17, 1009, 10 ** 6 + 3, 10 ** 20 - 11, 10 ** 40, GREAT):
            for value in JUNK:
                told = is_shown(n, value)
                # None of these is a certificate for any of the numbers.
                self.assertIsNone(told, (n, value))

    def test_deep_and_long_ones(self):
        for value in (nested((), 99), nested(SMALL, 98), [nested((), 98)], nested(10 ** 1999, 99)):
            for n in (0, 1, 7, 9, GREAT):
                self.assertIsNone(is_shown(n, value))
                self.assertIsNone(is_shown(n, ("powers", value)))
                self.assertIsNone(is_shown(n, ("factor", value)))
                self.assertIsNone(is_shown(n, ("curve", value, value, value, value, value)))
        row = (2, 1, 3, SMALL)
        self.assertIsNone(is_shown(GREAT, ("powers", (row,) * 3000)))
        rows = tuple((q, 1, 3, SMALL) for q in range(2, 3000))
        self.assertIsNone(is_shown(GREAT, ("powers", rows)))
        self.assertIsNone(is_shown(GREAT, (0,) * 20000))
        self.assertIsNone(is_shown(GREAT, [None] * 20000))


class WalkTest(unittest.TestCase):
    """Walks against adding as [88] tells it, with a division at each sum."""

    def added(self, n, a, P, Q):
        """("point", P) or ("broken", d)."""
        if P == () or Q == ():
            return ("point", P or Q)
        if P[0] == Q[0]:
            if (P[1] + Q[1]) % n == 0:
                return ("point", ())
            if P[1] != Q[1]:
                return ("broken", None)
            up, across = 3 * P[0] ** 2 + a, 2 * P[1]
        else:
            up, across = Q[1] - P[1], Q[0] - P[0]
        d = max(d for d in range(1, n + 1) if n % d == 0 and across % d == 0)
        if d > 1:
            return ("broken", d)
        k = up * pow(across, -1, n)
        x = (k * k - P[0] - Q[0]) % n
        return ("point", (x, (k * (P[0] - x) - P[1]) % n))

    def walked(self, n, a, P, k):
        told = ("point", ())
        for figure in bin(k)[2:]:
            told = self.added(n, a, told[1], told[1])
            if told[0] == "point" and figure == "1":
                told = self.added(n, a, told[1], P)
            if told[0] == "broken":
                return told
        return told

    def test_walks(self):
        seen = set()
        for n in (5, 7, 25, 35, 49, 55, 77, 143, 175, 385):
            rng = random.Random(n)
            for _ in range(60):
                a, x, y = rng.randrange(n), rng.randrange(n), rng.randrange(n)
                for k in list(range(0, 30)) + [rng.randrange(10 ** 6)]:
                    told = walk(n, a, (x, y), k)
                    self.assertEqual(told, self.walked(n, a, (x, y), k), (n, a, x, y, k))
                    seen.add(told if told[0] == "broken" else told[0])
                self.assertEqual(walk(n, a, (), 5), ("point", ()))
        self.assertTrue({"point", ("broken", 5), ("broken", 7), ("broken", 35)} <= seen)

    def test_breaks_without_a_division(self):
        # Over 35 (2, y) with y y the same, y = 3 modulo 5 and modulo 7, added to (2, y') with y' = (2, 3).
        seen = set()
        for n in (35, 77, 143):
            for a in range(n):
                for x in range(0, n, 5):
                    for y in range(1, n, 3):
                        for k in (3, 5, 6, 7, 11):
                            told = walk(n, a, (x, y), k)
                            if told == ("broken", None):
                                self.assertEqual(self.walked(n, a, (x, y), k), told)
                                seen.add(n)
        self.assertTrue(seen)

    def test_primes(self):
        p = 101
        for P in points_slowly(p, 3, 5)[:6]:
            total = None
            for k in range(130):
                self.assertEqual(walk(p, 3, P, k), ("point", total or ()))
                total = added_slowly(p, 3, total, P)


if __name__ == "__main__":
    unittest.main()
