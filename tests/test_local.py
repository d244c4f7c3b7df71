import random
import unittest

from pointsum.local import at_prime, bars_at, everywhere, is_bars, is_witness, witness_at
from pointsum.localclasses import is_square_form
from pointsum.quartics import at_reals, is_quartic
from tests.test_quartics import some_quartic

JUNK = (
    None, True, False, 0, 3, "", "t", "odd", (), [], ((), ()), ("t",), ("t", None), ("t", "3"), ("t", True), ("t", (3,)), ["t", 3],
    ("t", 3, 3), ("u", 3), (3, "t"), (True, 3), (("t", 3),), ("odd", ()), (("odd", ()),), (("odd", ()), None), (None, None),
    (("odd", ()), ("odd", ()), ("odd", ())), [("odd", ()), ("odd", ())], (["odd", ()], ["odd", ()]), (("odd",), ("odd",)),
    (("odd", []), ("odd", [])), (("odd", None), ("odd", None)), (("odd", 0), ("odd", 0)), ("odd", "odd"), (1, 2), ("ab", "cd"),
    (("barred",), ("barred",)), (("halves", ("barred",)), ("barred",)), ("barred", "barred"),
)


def value_of_side(side, t):
    top, middle, last = side
    return top * t ** 4 + middle * t * t + last


def sides(quartic):
    d1, a, d2 = quartic
    return (d1, a, d2), (d2, a, d1)


def many_times(n, p):
    many = 0
    while n % p == 0:
        n, many = n // p, many + 1
    return many


def is_local(n, p):
    """Whether n is 0 or has a root modulo every power of p, by the words of the document."""
    if n == 0:
        return True
    v = many_times(n, p)
    n //= p ** v
    return v % 2 == 0 and (n % 8 == 1 if p == 2 else pow(n, (p - 1) // 2, p) == 1)


def is_there(quartic, p, k):
    """Whether some value, x and y not both divisible by p, is a square modulo p ** k, by trying all of them."""
    m = p ** k
    squares = {z * z % m for z in range(m)}
    first, second = sides(quartic)
    if any(value_of_side(first, t) % m in squares for t in range(m)):
        return True
    return any(value_of_side(second, s) % m in squares for s in range(0, m, p))


def coefficients(side, p, r, k):
    """Those of H(u) = F(r + p ** k u), from the values at five u."""
    q = p ** k
    top, middle, last = side
    return [
        value_of_side(side, r), 4 * top * r ** 3 * q + 2 * middle * r * q, (6 * top * r * r + middle) * q * q,
        4 * top * r * q ** 3, top * q ** 4,
    ]


def tree_slowly(side, p, r, k):
    """The tree for the class (r, k) by the words of the document; an error if some value is a local square."""
    c = coefficients(side, p, r, k)
    if p == 2:
        assert not is_local(c[0], 2)
        v, m = many_times(c[0], 2), min(many_times(n, 2) for n in c[1:] if n)
        unit = c[0] // 2 ** v
        if v < m and (v % 2 == 1 or (m - v >= 3 and unit % 8 != 1) or (m - v == 2 and unit % 4 == 3)):
            return ("barred",)
        return ("halves", tree_slowly(side, 2, r, k + 1), tree_slowly(side, 2, r + 2 ** k, k + 1))
    e = min(many_times(n, p) for n in c if n)
    values = [sum(n // p ** e * u ** at for at, n in enumerate(c)) % p for u in range(p)]
    squares = {z * z % p for z in range(1, p)}
    assert e % 2 == 1 or not any(n in squares for n in values)
    rows = tuple((u, tree_slowly(side, p, r + p ** k * u, k + 1)) for u in range(p) if values[u] == 0)
    return ("odd" if e % 2 else "even", rows)


def bars_slowly(quartic, p):
    first, second = sides(quartic)
    return (tree_slowly(first, p, 0, 0), tree_slowly(second, p, 0, 1))


def bent(value):
    """All values that come from a tuple by bending it in one place."""
    yield list(value)
    yield value + (value[-1],) if value else (1,)
    yield value + ((),)
    if value:
        yield value[:-1]
        yield value[1:]
    for at, part in enumerate(value):
        if isinstance(part, tuple):
            others = list(bent(part)) + [None, 0, "odd", ("barred",), ("odd", ()), ("even", ())]
        elif isinstance(part, str):
            others = ["odd", "even", "barred", "halves", "", None, 0]
        else:
            others = [part + 1, part - 1, str(part), None, True, False]
        for other in others:
            # True == 1: unlike values all the same.
            if other != part or type(other) is not type(part):
                yield value[:at] + (other,) + value[at + 1:]


def depth(value):
    return 1 + max((depth(part) for part in value), default=0) if isinstance(value, tuple) else 0


class LocalTest(unittest.TestCase):
    def check(self, quartic, p):
        witness, bars = witness_at(quartic, p), bars_at(quartic, p)
        self.assertIs(at_prime(quartic, p), witness is not None)
        self.assertIs(bars is None, witness is not None, (quartic, p))
        if witness is None:
            self.assertIs(is_bars(quartic, p, bars), True)
        else:
            word, r = witness
            first, second = sides(quartic)
            self.assertIn(word, ("t", "s"))
            self.assertTrue(word == "t" or r % p == 0)
            self.assertTrue(is_local(value_of_side(first if word == "t" else second, r), p))
            self.assertIs(is_witness(quartic, p, witness), True)
        return witness is not None

    def test_examples(self):
        self.assertIs(at_prime((5, 0, 5), 5), False)
        self.assertEqual(bars_at((5, 0, 5), 5), (("odd", ()), ("odd", ())))
        self.assertIs(is_bars((5, 0, 5), 5, (("odd", ()), ("odd", ()))), True)
        self.assertIs(at_prime((3, 0, 3), 2), False)
        bars = (("halves", ("barred",), ("barred",)), ("barred",))
        self.assertEqual(bars_at((3, 0, 3), 2), bars)
        self.assertIs(is_bars((3, 0, 3), 2, bars), True)
        self.assertIs(is_witness((2, 0, -34), 17, ("t", 3)), True)
        self.assertIs(everywhere((2, 0, -34), (2, 17)), True)
        self.assertIs(at_reals((-1, 5, -1)), True)

    def test_by_trying_all(self):
        rng = random.Random(1)
        for p, k, many in ((2, 10, 60), (3, 6, 40), (5, 4, 40), (7, 3, 40), (11, 3, 10)):
            told = set()
            for _ in range(many):
                # p times a quartic is there more seldom.
                quartic = tuple(rng.choice((1, 1, p)) * n for n in some_quartic(rng, 5))
                if is_quartic(quartic):
                    right = is_there(quartic, p, k)
                    self.assertIs(self.check(quartic, p), right, (quartic, p))
                    told.add(right)
            self.assertEqual(told, {True, False})

    def test_many_small_ones(self):
        rng = random.Random(2)
        for p in (2, 3, 5, 7, 13, 17, 19, 23):
            told = set()
            for _ in range(150):
                quartic = tuple(rng.choice((1, 1, p, p * p)) * n for n in some_quartic(rng, 40))
                if is_quartic(quartic):
                    told.add(self.check(quartic, p))
                    bars = bars_at(quartic, p)
                    if bars is not None:
                        self.assertEqual(bars, bars_slowly(quartic, p))
            self.assertEqual(told, {True, False})

    def test_whole_ranges(self):
        rng = random.Random(3)
        for p in (2, 3, 5, 7, 101, 499, 503, 10007, 999999929, 999999937):
            for at in range(60):
                d1, a, d2 = (rng.randint(-m, m) for m in (10 ** 18, 10 ** 11, 10 ** 18))
                powers = [p ** e for e in range(60) if p ** e <= 10 ** 18]
                if at % 4 == 1:
                    d1 = rng.choice((1, -1)) * rng.choice(powers)
                elif at % 4 == 2:
                    d1, d2 = (rng.choice((1, -1)) * rng.choice(powers) for _ in range(2))
                    a = a // p * p
                elif at % 4 == 3:
                    d1, a, d2 = p * (d1 // p), p * (a // p), p * (d2 // p)
                if is_quartic((d1, a, d2)):
                    self.check((d1, a, d2), p)

    def test_roots_near_to_a_number(self):
        # F = c ((t t - s) ** 2 - n p ** (2 j)): deep trees, or witnesses far down.
        rng = random.Random(4)
        deepest = {}
        for p, limit in ((2, 28), (3, 17), (5, 11), (7, 9), (13, 6), (101, 3)):
            for at in range(100):
                c, s, n = rng.choice((1, -1, 2, 3, 5, -3, 7, p)), rng.randint(1, 10000), rng.choice((2, 3, 5, -1, -3, 7, p))
                j = limit if at % 2 else rng.randint(1, limit)
                quartic = (c, -2 * c * s, c * (s * s - n * p ** (2 * j)))
                for one in (quartic, quartic[::-1]):
                    if is_quartic(one) and not self.check(one, p):
                        bars = bars_at(one, p)
                        deepest[p] = max(deepest.get(p, 0), depth(bars))
                        self.assertEqual(bars, bars_slowly(one, p))
        self.assertGreater(deepest[2], 25)
        self.assertGreater(deepest[3], 45)

    def test_great_primes_and_squares_of_forms(self):
        # c (t t + s) ** 2 over p, c no square: no value is a square but 0.
        for p in (10007, 999999929, 999999937):
            c = min(c for c in range(2, 99) if pow(c, (p - 1) // 2, p) == p - 1)
            for s in (1, 2, 3, 5, -1, -2, -c, -4):
                quartic = (c, 2 * c * s, c * s * s + p)
                square = pow(-s, (p - 1) // 2, p) == 1
                # At a root of t t + s the value is p times a number that p does not divide.
                self.assertIs(self.check(quartic, p), False)
                tree = bars_at(quartic, p)[0]
                self.assertEqual(tree[0], "even")
                self.assertEqual(len(tree[1]), 2 if square else 0)
                for u, part in tree[1]:
                    self.assertEqual((u * u + s) % p, 0)
                    self.assertEqual(part, ("odd", ()))
                self.assertEqual(bars_at(quartic, p)[1], ("even", ()))
                # A square in the place of c, and a form that is no square.
                self.assertIs(self.check((1, 2 * s, s * s + p), p), True)
                self.assertIs(self.check((c, 2 * c * s, c * s * s + 1), p), True)
        # c t t and c alone are such squares, too.
        p = 10007
        c = min(c for c in range(2, 99) if pow(c, (p - 1) // 2, p) == p - 1)
        self.check((p, c, p), p)
        self.check((p, p, c), p)
        self.check((c, p, p), p)
        self.assertIs(self.check((p ** 3, c, p ** 3), p), False)

    def test_squares_of_forms_in_smaller_classes(self):
        # At the roots of t t + s comes c (2 r u + w) ** 2 + p: again a square of a form.
        p = 999983
        c = min(c for c in range(2, 99) if pow(c, (p - 1) // 2, p) == p - 1)
        for s in range(1, 6):
            quartic = (c, 2 * c * s, c * s * s + p ** 3)
            self.assertIs(self.check(quartic, p), False)
            rows = bars_at(quartic, p)[0][1]
            self.assertEqual(len(rows), 2 if pow(-s, (p - 1) // 2, p) == 1 else 0)
            for _, part in rows:
                self.assertEqual((part[0], [row[1] for row in part[1]]), ("even", [("odd", ())]))

    def test_is_square_form(self):
        rng = random.Random(8)
        for p in (3, 5, 7, 11):
            digits = range(p)
            squares = {(1,)} | {(b * b % p, 2 * b % p, 1) for b in digits}
            squares |= {(c * c % p, 2 * b * c % p, (2 * c + b * b) % p, 2 * b % p, 1) for b in digits for c in digits}
            for degree in range(5):
                for _ in range(200):
                    f = [rng.randrange(p) for _ in range(degree)] + [1]
                    self.assertIs(is_square_form(f, p), tuple(f) in squares)
            for f in squares:
                self.assertIs(is_square_form(list(f), p), True)

    def test_everywhere(self):
        self.assertIs(everywhere((-1, -5, -1), ()), False)
        self.assertIs(everywhere((1, 0, 1), ()), True)
        self.assertIs(everywhere((5, 0, 5), ()), True)
        self.assertIs(everywhere((5, 0, 5), (2, 3)), at_prime((5, 0, 5), 2))
        self.assertIs(everywhere((5, 0, 5), (3, 5)), False)
        self.assertIs(everywhere((-5, 0, -5), (3,)), False)
        rng = random.Random(5)
        for _ in range(60):
            quartic = some_quartic(rng, 9)
            told = everywhere(quartic, (2, 3, 5, 7))
            self.assertIs(told, at_reals(quartic) and all(at_prime(quartic, p) for p in (2, 3, 5, 7)))


class WitnessTest(unittest.TestCase):
    def test_junk(self):
        for quartic, p in (((1, 0, 1), 3), ((1, 0, 1), 2), ((5, 0, 5), 5)):
            for value in JUNK + (("T", 0), ("t", "0"), ("s", "0"), ("s", None), ("s", False)):
                self.assertIs(is_witness(quartic, p, value), False, value)

    def test_both_forms(self):
        rng = random.Random(6)
        for p in (2, 3, 5, 7, 101):
            for _ in range(20):
                quartic = tuple(rng.choice((1, p)) * n for n in some_quartic(rng, 30))
                if not is_quartic(quartic):
                    continue
                first, second = sides(quartic)
                for r in [*range(-30, 31), 10 ** 30, -p ** 50, p ** 100 + 1]:
                    self.assertIs(is_witness(quartic, p, ("t", r)), is_local(value_of_side(first, r), p))
                    right = r % p == 0 and is_local(value_of_side(second, r), p)
                    self.assertIs(is_witness(quartic, p, ("s", r)), right)
        # A root, and great numbers.
        self.assertIs(is_witness((1, 0, -1), 7, ("t", 1)), True)
        self.assertIs(is_witness((1, 0, -1), 7, ("t", -1)), True)
        self.assertIs(is_witness((1, 0, 2), 7, ("s", 7 * 10 ** 2000)), True)
        self.assertIs(is_witness((1, 0, 2), 7, ("s", 7 * 10 ** 2000 + 1)), False)
        self.assertIs(is_witness((4, 0, 3), 2, ("s", 10 ** 1900)), True)

    def test_witness_of_the_second_form(self):
        # F has no local square, G has.
        for quartic, p in (((49, 0, 3), 7), ((16, 0, 3), 2), ((9, 0, 2), 3)):
            told = witness_at(quartic, p)
            self.assertEqual(told[0], "s")
            self.assertIs(is_witness(quartic, p, told), True)
            self.assertIs(is_witness(quartic, p, ("s", 0)), True)
            self.assertFalse(any(is_witness(quartic, p, ("t", r)) for r in range(-100, 100)))


class BarsTest(unittest.TestCase):
    def test_junk(self):
        for quartic, p in (((3, 0, 3), 2), ((1, 0, 1), 3), ((1, 0, 1), 2), ((5, 5, 10), 5)):
            for value in JUNK:
                self.assertIs(is_bars(quartic, p, value), False, (quartic, p, value))
        for value in JUNK:
            self.assertIs(is_bars((5, 0, 5), 5, value), False, value)

    def test_bent_in_one_place(self):
        rng = random.Random(7)
        for p in (2, 3, 5, 7, 13):
            done = 0
            while done < 8:
                quartic = tuple(rng.choice((1, p, p * p)) * n for n in some_quartic(rng, 12))
                bars = bars_at(quartic, p) if is_quartic(quartic) else None
                if bars is None or (done > 2 and depth(bars) < 4):
                    continue
                done += 1
                self.assertIs(is_bars(quartic, p, bars), True)
                for value in bent(bars):
                    if value != bars or repr(value) != repr(bars):
                        self.assertIs(is_bars(quartic, p, value), False, (quartic, p, bars, value))

    def test_of_other_quartics(self):
        bars = bars_at((3, 0, 3), 2)
        self.assertIs(is_bars((1, 0, 1), 2, bars), False)
        self.assertIs(is_bars((5, 0, 5), 7, bars_at((5, 0, 5), 5)), False)
        # "even" is no tree where h is a square for some u.
        self.assertIs(is_bars((2, 0, 2), 3, (("even", ()), ("even", ()))), bars_at((2, 0, 2), 3) is not None)
        self.assertIs(is_bars((1, 0, 1), 7, (("even", ()), ("even", ()))), False)

    def test_deep_values(self):
        value = ("barred",)
        for _ in range(98):
            value = ("halves", value, ("barred",))
        self.assertIs(is_bars((1, 0, 1), 2, (value, value)), False)
        self.assertIs(is_bars((3, 0, 3), 2, (value, value)), False)
        value = ("barred",)
        for _ in range(98):
            value = ("halves", value, value)
        self.assertIs(is_bars((1, 0, 1), 2, (value, value)), False)
        value = ("odd", ())
        for _ in range(30):
            value = ("even", ((0, value),))
        self.assertIs(is_bars((1, 0, 1), 3, (value, value)), False)


if __name__ == "__main__":
    unittest.main()
