import random
import unittest

from pointsum.changes import led, led_point, whole_curve
from pointsum.curves import five, numbers_of, plain_form, short_form
from pointsum.falls import fall_at, falls, singular_point, smooth_count, tangents
from pointsum.models import least_model
from pointsum.points import point_modulo
from tests.right_values import is_prime_slowly
from tests.test_curves import some_curve
from tests.test_fields import satisfies

# (curve, prime, word)
KNOWN = (
    ((0, 0, 1, -1, 0), 37, "unsplit"), ((0, -1, 1, -10, -20), 11, "split"), ((1, 0, 1, 4, -6), 2, "unsplit"),
    ((1, 0, 1, 4, -6), 7, "split"), ((1, 1, 1, -10, -10), 3, "unsplit"), ((1, 1, 1, -10, -10), 5, "split"),
    ((1, 0, 0, -4, -1), 3, "split"), ((1, 0, 0, -4, -1), 7, "unsplit"), ((1, -1, 1, -3, 3), 2, "split"),
    ((1, -1, 1, -3, 3), 13, "unsplit"), ((0, 1, 0, 4, 4), 2, "additive"), ((0, 1, 0, 4, 4), 5, "unsplit"),
    ((0, 0, 1, 0, 0), 3, "additive"), ((0, 0, 1, 0, -7), 3, "additive"), ((0, -1, 0), 2, "additive"),
    ((0, 0, 0, 0, 5), 5, "additive"), ((0, 0, 0, 7, 0), 7, "additive"), ((0, 0, 1, -1, 0), 2, "smooth"),
    ((0, 0, 1, -1, 0), 3, "smooth"), ((0, 0, 1, -1, 0), 5, "smooth"), ((0, -1, 1, -10, -20), 999983, "smooth"),
    ((0, 0, 0, -16, 16), 2, "smooth"), ((0, -16, 16), 2, "smooth"), ((0, -16, 16), 37, "unsplit"),
)


def looked_at(curve, p):
    """(singular points, tangents, number of smooth points) of the least model by trying all digits."""
    least = least_model(curve)[0]
    a1, a2, a3, a4, _ = least
    points = [(x, y) for x in range(p) for y in range(p) if satisfies(p, least, x, y)]
    singular = [
        (x, y) for x, y in points
        if (2 * y + a1 * x + a3) % p == 0 and (3 * x * x + 2 * a2 * x + a4 - a1 * y) % p == 0
    ]
    slopes = []
    if singular:
        e, f = singular[0]
        # Moved so that the singular point stands at (0, 0); its last three numbers are 0 modulo p.
        moved = whole_curve(led(least, ((1, 1), (e, 1), (0, 1), (f, 1))))
        assert moved[2] % p == moved[3] % p == moved[4] % p == 0
        slopes = [k for k in range(p) if (k * k + moved[0] * k - moved[1]) % p == 0]
    return (singular, tuple(slopes), 1 + len(points) - len(singular))


class FallsTest(unittest.TestCase):
    def check(self, curve, p):
        singular, slopes, smooth = looked_at(curve, p)
        least = least_model(curve)[0]
        _, _, _, _, c4, _, d = numbers_of(least)
        self.assertEqual(singular_point(curve, p), singular[0] if singular else None)
        self.assertEqual(len(singular), 1 if d % p == 0 else 0)
        self.assertEqual(tangents(curve, p), slopes)
        self.assertEqual(smooth_count(curve, p), smooth)
        if d % p:
            word = "smooth"
        elif c4 % p == 0:
            word = "additive"
        else:
            word = {2: "split", 0: "unsplit"}[len(slopes)]
        self.assertEqual(fall_at(curve, p), word)
        if word != "smooth":
            self.assertEqual(smooth, {"split": p - 1, "unsplit": p + 1, "additive": p}[word])
        return word

    def test_example(self):
        curve = (0, 0, 1, -1, 0)
        self.assertEqual(singular_point(curve, 37), (5, 18))
        self.assertEqual(tangents(curve, 37), ())
        self.assertEqual(fall_at(curve, 37), "unsplit")
        self.assertEqual(smooth_count(curve, 37), 38)
        self.assertEqual(falls(curve, 10000), ((37, 1, "unsplit"),))
        self.assertEqual(falls(curve, 36), ())

    def test_known(self):
        for curve, p, word in KNOWN:
            self.assertEqual(fall_at(curve, p), word)
            if p < 100:
                self.assertEqual(self.check(curve, p), word)

    def test_by_looking(self):
        rng = random.Random(1)
        words = {p: set() for p in (2, 3, 5, 7)}
        for _ in range(250):
            curve = some_curve(rng, 4, 12)
            for p in words:
                words[p].add(self.check(curve, p))
        for p in words:
            self.assertEqual(words[p], {"smooth", "additive", "split", "unsplit"}, p)

    def test_least_model_counts(self):
        # The numbers of these curves are divisible by 2, 3 or 5, those of their least models are not.
        rng = random.Random(2)
        for _ in range(40):
            curve = some_curve(rng, 2, 9)
            others = [(0, 0, 0) + short_form(curve), plain_form(curve)[0]]
            w = rng.choice((2, 3, 5, 6))
            others.append(tuple(a * w ** k for a, k in zip(curve, (1, 2, 3, 4, 6))))
            for other in others:
                for p in (2, 3, 5, 7, 11):
                    self.assertEqual(fall_at(other, p), fall_at(curve, p))
                    self.assertEqual(singular_point(other, p), singular_point(curve, p))
                    self.assertEqual(tangents(other, p), tangents(curve, p))
                    self.assertEqual(smooth_count(other, p), smooth_count(curve, p))
                self.assertEqual(falls(other, 100), falls(curve, 100))

    def test_list(self):
        rng = random.Random(3)
        for _ in range(100):
            curve = some_curve(rng, 4, 20)
            d = numbers_of(least_model(curve)[0])[6]
            told = []
            for p in range(2, 200):
                if is_prime_slowly(p) and d % p == 0:
                    e = max(e for e in range(1, 60) if d % p ** e == 0)
                    told.append((p, e, fall_at(curve, p)))
            self.assertEqual(falls(curve, 199), tuple(told))
            for most in (0, 1, 2, 3, 13):
                self.assertEqual(falls(curve, most), tuple(row for row in told if row[0] <= most))

    def test_great_primes(self):
        # y y = x x (x + d) + p has modulo p a singular point at (0, 0), with the slopes whose square is d.
        for p in (9973, 999979, 999983):
            for d in (1, 2, 3, 5, -1, -2):
                curve = (0, d, 0, 0, p)
                square = pow(d, (p - 1) // 2, p) == 1
                place = point_modulo((0, 0, 0, 0, 1), led_point(((0, 1), (0, 1)), least_model(curve)[1]), p)
                self.assertEqual(singular_point(curve, p), place)
                self.assertEqual(place[1], 0)
                self.assertEqual(fall_at(curve, p), "split" if square else "unsplit")
                told = tangents(curve, p)
                self.assertEqual(len(told), 2 if square else 0)
                self.assertEqual(list(told), sorted(told))
                self.assertTrue(all((k * k - d) % p == 0 for k in told))
            self.assertEqual(fall_at((0, 0, 0, p, p), p), "additive")
            self.assertEqual(singular_point((0, 0, 0, p, p), p), (0, 0))
            self.assertEqual(tangents((0, 0, 0, p, p), p), (0,))
            self.assertEqual(fall_at((0, 0, 0, 1, p), p), "smooth")
            self.assertIsNone(singular_point((0, 0, 0, 1, p), p))
            self.assertEqual(tangents((0, 0, 0, 1, p), p), ())
        self.assertEqual(falls((0, 0, 0, 9973, 9973), 9973)[-1], (9973, 2, "additive"))
        self.assertEqual(smooth_count((0, 0, 0, 9973, 9973), 9973), 9973)

    def test_smooth_ones_are_all_points(self):
        for curve, p in (((0, 0, 1, -1, 0), 2), ((0, 0, 1, -1, 0), 3), ((0, -16, 16), 2), ((0, -1, 0), 101)):
            least = five(least_model(curve)[0])
            points = [(x, y) for x in range(p) for y in range(p) if satisfies(p, least, x, y)]
            self.assertEqual(smooth_count(curve, p), 1 + len(points))


if __name__ == "__main__":
    unittest.main()
