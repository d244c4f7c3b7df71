import random
import unittest
from itertools import product
from unittest import mock

from pointsum.changes import changes_between, led
from pointsum.curves import is_plain
from pointsum.errors import Open, TooGreat
from pointsum.finite import finite_part, order_of
from pointsum.independence import are_shown, shown_by
from pointsum.listbars import bars_told, classes_left
from pointsum.lists import found_points, list_of, rank_bounds
from pointsum.local import at_prime
from pointsum.points import added, multiple, opposite
from pointsum.primes import is_prime
from pointsum.search import box_of
from pointsum.shown import answer_to, certified, is_certified
from pointsum.sums import many_times, sum_of_multiples
from pointsum.twomaps import beside
from tests.right_values import GREAT_CERT, is_prime_slowly
from tests.test_certificates import at_place, bent, places
from tests.test_finite import some_plain
from tests.test_lists import CURVES, classes_slowly, some_curve
from tests.test_quartics import some_quartic
from tests.test_saturation import GROUPS

JUNK = (
    None, True, False, 0, 1, 2, -1, 10 ** 1999, "", "order", "sum", (), [], ((), ()), [(), ()], ((),), (None,), (None, None), (0, 0),
    (2, ()), (2, (5,)), (2, [5]), (2, None), (2, (None,)), (2, (4,)), (2, (10 ** 1999,)), (10 ** 1999, (5,)), (-2, (5,)), (True, (5,)),
    (1, (5,)), ("2", (5,)), (2, ("5",)), (2, ([],)), (2, (5,), ()), ("order",), ("order", None), ("order", True), ("order", 0),
    ("order", -1), ("order", "1"), ["order", 1], ("order", 1, 1), ("order", 10 ** 1999), ("parts",), ("parts", 0), ("parts", 61),
    ("parts", -1), ("parts", True), ("parts", None), ("parts", 10 ** 1999), ("parts", (1,)), ("sum",), ("sum", (1,)), ("sum", (1,), None),
    ("sum", (), 1), ("sum", [1], 1), ("sum", (61,), 1), ("sum", (0,), 1), ("sum", (True,), 1), ("sum", (None,), 1), ("sum", 1, 1),
    ("sum", ((1,),), 1), ("sum", (1, 1), 1, 1), (((),), 2, (5,)), ((((3, 1), (5, 1)),), 2, (5, None)), ("t",), ("t", None), ("t", "1"),
    ("odd", ()), (("odd", ()), None), ((1, ("reals",)),), (((1, ("reals",)),), ()), (((1, (2, None)),), ()), (((None, ("reals",)),), ()),
    (([1, ("reals",)],), ()), ((), [],), ((1, 1), (0, 1), (0, 1), (0, 1)), ((0, 1), (0, 1), (0, 1), (0, 1)), ((1, 1), (0, 1), (0, 1)),
    ((2, 2), (0, 1), (0, 1), (0, 1)), ((1, 0), (0, 1), (0, 1), (0, 1)), (1, 0, 0, 0), ((True, 1), (0, 1), (0, 1), (0, 1)),
    ([1, 1], (0, 1), (0, 1), (0, 1)), ((10 ** 1999, 1), (0, 1), (0, 1), (0, 1)), ("small",), ("unit",), ("factor", 2), ("witness", 2),
)
QUESTIONS = (
    ("finite", (0, 0, 1), ((2, 1), (3, 1))), ("finite", (0, 0, -2), ((3, 1), (5, 1))), ("finite", (0, 0, -2), ()),
    ("independent", (0, 0, 17), (((-2, 1), (3, 1)), ((-1, 1), (4, 1)))), ("independent", (0, 0, -2), (((3, 1), (5, 1)),)),
    ("independent", (0, 0, 1), (((2, 1), (3, 1)),)), ("independent", (0, 0, 17), (((-2, 1), (3, 1)), ((8, 1), (-23, 1)))),
    ("rank at most", (0, -1, 0), 0), ("rank at most", (0, 17, 0), 2), ("rank at most", (0, -25, 0), 0), ("rank at most", (0, -82, 0), 2),
    ("rank at most", (0, -82, 0), 7), ("at", (5, 0, 5), 5), ("at", (3, 0, 3), 2), ("at", (2, 0, -34), 17), ("at", (2, 0, -34), 2),
    ("alike", (0, 0, 0, -16, 16), (0, 0, 1, -1, 0)), ("alike", (0, -16, 16), (0, 0, 1, -1, 0)), ("alike", (0, -1, 0), (0, 1, 0)),
    ("prime", 0), ("prime", 1), ("prime", 2), ("prime", 10 ** 20), ("prime", 10 ** 18 + 9), ("prime", 561), ("prime", 1000003 ** 2),
)


class CertifiedTest(unittest.TestCase):
    def check(self, question):
        """The answer to a question, with a certificate that is right for it and for no other answer."""
        answer, certificate = certified(question)
        self.assertIs(answer_to(question), answer)
        self.assertIs(is_certified(question, answer, certificate), True, (question, answer, certificate))
        self.assertIs(is_certified(question, not answer, certificate), False, (question, answer, certificate))
        self.assertEqual(certified(question), (answer, certificate))
        return answer, certificate

    def test_told_questions(self):
        answers = [self.check(question)[0] for question in QUESTIONS]
        self.assertTrue(True in answers and False in answers)

    def test_finite(self):
        rng = random.Random(1)
        answers = set()
        for _ in range(120):
            curve = some_plain(rng, 12)
            P = rng.choice(box_of(curve, 50))
            answer, certificate = self.check(("finite", curve, P))
            answers.add(answer)
            order = order_of(curve, P)
            if answer:
                self.assertEqual(certificate, ("order", order))
            else:
                self.assertIsNone(order)
                word, n = certificate
                self.assertEqual(word, "parts")
                x, y = many_times(curve, n, P)
                self.assertTrue(1 <= n <= 60 and (x[1] > 1 or y[1] > 1))
        self.assertEqual(answers, {True, False})

    def test_independent(self):
        rng = random.Random(2)
        answers = set()
        for curve, points in GROUPS:
            finite = finite_part(curve)
            for _ in range(10):
                some = []
                for _ in range(rng.randint(1, 3)):
                    numbers = [rng.randint(-2, 2) for _ in points]
                    some.append(added(curve, sum_of_multiples(curve, numbers, points), rng.choice(finite)))
                try:
                    answer, certificate = self.check(("independent", curve, tuple(some)))
                except Open:
                    self.assertIsNone(shown_by(curve, tuple(some)))
                    continue
                answers.add(answer)
                if answer:
                    self.assertTrue(are_shown(curve, tuple(some), *certificate))
                else:
                    word, numbers, n = certificate
                    self.assertEqual(word, "sum")
                    self.assertTrue(any(numbers) and len(numbers) == len(some))
                    self.assertEqual(order_of(curve, sum_of_multiples(curve, numbers, some)), n)
        self.assertEqual(answers, {True, False})

    def test_rank_at_most(self):
        rng = random.Random(3)
        answers = set()
        for curve in list(CURVES) + [some_curve(rng, 60) for _ in range(40)]:
            low, high = rank_bounds(curve, 100)
            for n in range(0, high + 2):
                question = ("rank at most", curve, n)
                if n >= high:
                    right = True
                elif n < low and n < 3:
                    right = False
                else:
                    self.assertRaises(Open, answer_to, question)
                    self.assertRaises(Open, certified, question)
                    answers.add("open")
                    continue
                answer, certificate = self.check(question)
                self.assertIs(answer, right)
                answers.add(answer)
                if not right:
                    self.assertEqual(len(certificate[0]), n + 1)
                    self.assertTrue(are_shown(curve, *certificate))
        self.assertEqual(answers, {True, False, "open"})

    def test_at(self):
        rng = random.Random(4)
        answers = set()
        for _ in range(150):
            quartic, p = some_quartic(rng, 60), rng.choice((2, 3, 5, 7, 11, 101, 10 ** 9 + 7))
            answer, _ = self.check(("at", quartic, p))
            self.assertIs(answer, at_prime(quartic, p))
            answers.add(answer)
        self.assertEqual(answers, {True, False})

    def test_alike(self):
        rng = random.Random(5)
        for _ in range(40):
            curve, other = some_plain(rng, 20), some_plain(rng, 20)
            u = rng.choice((1, 2, 3))
            a, b, c = curve
            scaled = (0, a * u * u, 0, b * u ** 4, c * u ** 6)
            self.assertIs(self.check(("alike", curve, scaled))[0], True)
            self.assertIs(self.check(("alike", scaled, curve))[0], True)
            answer, certificate = self.check(("alike", curve, other))
            if not answer:
                self.assertEqual(certificate, ())
        # Both changes are right, in their own sense alone.
        curve, other = (0, 0, 0, -16, 16), (0, 0, 1, -1, 0)
        for change in changes_between(curve, other):
            self.assertIs(is_certified(("alike", curve, other), True, change), True)
            self.assertIs(is_certified(("alike", other, curve), True, change), False)
        self.assertIs(is_certified(("alike", curve, other), False, ()), False)

    def test_prime(self):
        rng = random.Random(6)
        for n in list(range(0, 60)) + [rng.randrange(10 ** k) for k in range(2, 21) for _ in range(4)]:
            answer, _ = self.check(("prime", n))
            self.assertIs(answer, is_prime(n))
            if n < 60:
                self.assertIs(answer, is_prime_slowly(n))


class OpenTest(unittest.TestCase):
    def test_dependent_by_great_numbers(self):
        # 7 P and 9 P: the least sum has 9 and 7; both hang on P alone.
        curve, P = (0, 0, -2), ((3, 1), (5, 1))
        question = ("independent", curve, (multiple(curve, 7, P), multiple(curve, 9, P)))
        self.assertRaises(Open, answer_to, question)
        self.assertRaises(Open, certified, question)
        self.assertIs(is_certified(question, False, ("sum", (9, -7), 1)), True)
        # 6 and 5 are let.
        question = ("independent", curve, (multiple(curve, 5, P), multiple(curve, 6, P)))
        self.assertIn(certified(question), ((False, ("sum", (6, -5), 1)), (False, ("sum", (-6, 5), 1))))

    def test_independent_but_not_shown(self):
        # 210 P is no double, threefold and so on only of further points: no l shows it.
        curve = (0, -16, 16)
        P = multiple(curve, 14, multiple(curve, 15, ((0, 1), (4, 1))))
        question = ("independent", curve, (P,))
        self.assertRaises(Open, answer_to, question)
        # A certificate by another l, above those that are tried, is right.
        for l in (11, 13, 17, 19, 31, 37, 41, 43):
            primes = tuple(p for p in range(3, 1000) if is_prime_slowly(p) and p != 37)
            self.assertIs(is_certified(question, True, (l, primes)), are_shown(curve, (P,), l, primes))
        found = [l for l in (11, 13, 17, 31, 37, 41, 43) if is_certified(question, True, (l, tuple(
            p for p in range(3, 1000) if is_prime_slowly(p) and p != 37)))]
        self.assertTrue(any(l > 31 for l in found) and any(l < 31 for l in found))

    def test_endless_without_parts(self):
        # No point is known whose first 60 multiples are whole; so fewer are asked here.
        question = ("finite", (0, 0, 17), ((-2, 1), (3, 1)))
        self.assertEqual(certified(question)[1][0], "parts")
        with mock.patch("pointsum.shown.MOST_TIMES", 2):
            self.assertRaises(Open, certified, question)
            self.assertIs(answer_to(question), False)

    def test_rank_of_17(self):
        # The rank is 0, but the lists leave 2.
        for n in (0, 1):
            self.assertRaises(Open, answer_to, ("rank at most", (0, 17, 0), n))
            self.assertRaises(Open, certified, ("rank at most", (0, 17, 0), n))
        self.assertIs(answer_to(("rank at most", (0, 17, 0), 2)), True)

    def test_more_than_three_points(self):
        # An upper number of 4 or 5; n = 3 would need four points, n = 2 three.
        for curve, low, high in (((46, -6930, 0), 2, 4), ((-67, -8569, 0), 0, 4), ((-64, 6337, 0), 1, 5)):
            self.assertEqual(rank_bounds(curve, 100), (low, high))
            for n in range(low, high):
                self.assertRaises(Open, answer_to, ("rank at most", curve, n))
                self.assertRaises(Open, certified, ("rank at most", curve, n))
            for n in range(low):
                self.assertIs(answer_to(("rank at most", curve, n)), False)
            self.assertIs(answer_to(("rank at most", curve, high)), True)


class IsCertifiedTest(unittest.TestCase):
    def test_junk(self):
        for question in QUESTIONS:
            answer = answer_to(question)
            for value in JUNK:
                wrong = is_certified(question, not answer, value)
                self.assertIs(wrong, False, (question, value))
                self.assertIn(is_certified(question, answer, value), (True, False))
                if self.is_no_form(question[0], answer, value):
                    self.assertIs(is_certified(question, answer, value), False, (question, answer, value))

    def is_no_form(self, word, answer, value):
        """Whether a value has surely not the form of a certificate."""
        if word == "alike" and not answer:
            return value != ()
        if word == "rank at most" and answer:
            return value != ((), ())
        if word == "prime":
            return value not in (("small",), ("unit",), ("factor", 2), ("witness", 2))
        if word == "independent" and answer:
            return value != (2, (5,))
        return not isinstance(value, tuple) or len(value) < 2 or None in value or True in value

    def test_bent_ones(self):
        rng = random.Random(8)
        put = (None, True, 0, 1, 2, -1, 5, 7, (), [], "reals", (0, 1), (1, 1), 10 ** 1999)
        for question in QUESTIONS:
            answer, certificate = certified(question)
            for path in list(places(certificate))[:60]:
                for value in rng.sample(put, 5) + [[at_place(certificate, path)]]:
                    other = bent(certificate, path, value)
                    self.assertIs(is_certified(question, not answer, other), False)
                    told = is_certified(question, answer, other)
                    self.assertIn(told, (True, False))
                    if isinstance(value, list) and value:
                        self.assertIs(told, False, (question, other))

    def test_finite(self):
        curve, P = (0, 0, 1), ((2, 1), (3, 1))
        for n in range(-2, 40):
            self.assertIs(is_certified(("finite", curve, P), True, ("order", n)), n == 6)
            self.assertIs(is_certified(("finite", curve, ()), True, ("order", n)), n == 1)
            self.assertIs(is_certified(("finite", curve, P), False, ("parts", n)), False)
        curve, P = (0, 0, 17), ((-2, 1), (3, 1))
        for n in range(-1, 62):
            right = 1 <= n <= 60 and any(f[1] > 1 for f in many_times(curve, n, P))
            self.assertIs(is_certified(("finite", curve, P), False, ("parts", n)), right)
            self.assertIs(is_certified(("finite", curve, P), True, ("order", n)), False)

    def test_too_great(self):
        # 60 P is beyond 4,000 figures.
        curve, P = (0, -25, 0), ((-4, 1), (6, 1))
        Q = multiple(curve, 3, P)
        self.assertLess(max(len(str(n)) for f in Q for n in f), 61)
        with self.assertRaises(TooGreat) as caught:
            is_certified(("finite", curve, Q), False, ("parts", 60))
        self.assertEqual(caught.exception.what, "figures")
        self.assertIs(is_certified(("finite", curve, Q), False, ("parts", 2)), True)
        question = ("independent", curve, (Q, opposite(curve, Q)))
        with self.assertRaises(TooGreat) as caught:
            is_certified(question, False, ("sum", (60, 60), 1))
        self.assertEqual(caught.exception.what, "figures")
        self.assertIs(is_certified(question, False, ("sum", (2, 2), 1)), True)
        self.assertIs(is_certified(question, False, ("sum", (2, 2), 2)), False)
        # No error where the form is wrong, or for the answer True.
        for answer, value in ((False, ("sum", (60, 61), 1)), (False, ("sum", (60, 60, 1), 1)), (True, ("sum", (60, 60), 1)),
                              (False, ("sum", (60, 60), None)), (False, ("parts", 60))):
            self.assertIs(is_certified(question, answer, value), False)
        self.assertIs(is_certified(("finite", curve, Q), True, ("parts", 60)), False)

    def test_sums(self):
        curve = (0, -25, 0)
        P, end = ((-4, 1), (6, 1)), ((5, 1), (0, 1))
        question = ("independent", curve, (P, added(curve, multiple(curve, -2, P), end)))
        for numbers in product(range(-3, 4), repeat=2):
            for n in (0, 1, 2, 3):
                total = sum_of_multiples(curve, numbers, question[2])
                right = any(numbers) and order_of(curve, total) == n
                self.assertIs(is_certified(question, False, ("sum", numbers, n)), right)
        self.assertIs(is_certified(question, False, ("sum", (2, 1), 2)), True)
        self.assertIs(is_certified(question, False, ("sum", (-30, -15), 2)), True)

    def test_independence(self):
        curve, points = GROUPS[4]
        question = ("independent", curve, points)
        l, primes = shown_by(curve, points)
        for other, told in (
            ((l, primes), True), ((l, primes + primes), True), ((l, primes[::-1]), True), ((l, primes + (997,)), True), ((l, ()), False),
            ((l, primes + (4,)), False), ((l, primes + (2,)), False), ((l, primes + (1009,)), False), ((l, list(primes)), False),
            ((4, primes), False), ((l, primes + (None,)), False), ((l, primes + (True,)), False), ((59, primes), False), ((l,), False),
            ((6, primes), False), ((0, primes), False), ((l, primes, primes), False), ([l, primes], False), ((l, primes * 8000), True),
        ):
            self.assertIs(is_certified(question, True, other), told, str(other)[:80])

    def test_rank_certificates(self):
        curve = (0, -1, 0)
        _, (bars, others) = certified(("rank at most", curve, 0))
        self.assertEqual(bars, ())
        self.assertEqual(others, ((-2, ("reals",)), (-1, ("reals",))))
        question = ("rank at most", curve, 0)
        for value, told in (
            ((bars, others), True), ((bars, others[:1]), True), ((bars, others[1:]), True), ((bars, ()), False), ((others, bars), False), ((bars, others[::-1]), False),
            ((bars, others + others), False), ((bars, ((-2, ("reals",)), (-2, ("reals",)))), False), ((bars, list(others)), False),
            ((bars, ((-2, ["reals"]), (-1, ("reals",)))), False), ((bars, others, ()), False), ((bars,), False), ((bars, None), False),
        ):
            self.assertIs(is_certified(question, True, value), told, value)
        # Three classes are left by one pair: more than 2, but no group of 4.
        self.assertIs(is_certified(("rank at most", curve, 1), True, (bars, ())), True)

    def test_classes_left(self):
        rng = random.Random(9)
        for curve in list(CURVES) + [some_curve(rng, 60) for _ in range(20)]:
            for side in (curve, beside(curve)):
                rows = bars_told(side)
                self.assertEqual(classes_left(side, rows), len(list_of(side)))
                self.assertEqual(classes_left(side, rows[1:]), len(list_of(side)) + min(len(rows), 1))
                self.assertEqual(classes_left(side, ()), len(list_of(side)) + len(rows))
                for at, (d, why) in enumerate(rows):
                    for wrong in (d * 4, 0, True, str(d)):
                        self.assertIsNone(classes_left(side, rows[:at] + ((wrong, why),) + rows[at + 1:]))
                    turned = rows[:at] + ((d, ("reals",) if why != ("reals",) else (3, None)),) + rows[at + 1:]
                    told = classes_left(side, turned)
                    self.assertTrue(told is None or why != ("reals",))
                # A member of the list is never barred.
                for d in list_of(side)[:3]:
                    for why in (("reals",), (2, (("barred",), ("barred",))), (3, (("odd", ()), ("odd", ()))), (3, (("even", ()), ("odd", ())))):
                        self.assertIsNone(classes_left(side, ((d, why),)))

    def test_rank_excess(self):
        curve = (0, -82, 0)
        points = found_points(curve, 100)
        for n in range(3):
            question = ("rank at most", curve, n)
            l, primes = shown_by(curve, points[:n + 1])
            self.assertIs(is_certified(question, False, (points[:n + 1], l, primes)), True)
            self.assertIs(is_certified(question, False, (points[:n + 1], l, primes + (997, 991))), True)
            wrong = (
                (points[:n], l, primes), (points[:1] * (n + 1) + ((),), l, primes), ((), l, primes), (list(points[:n + 1]), l, primes),
                ((((1, 1), (1, 1)),) * (n + 1), l, primes), (((),) * (n + 1), l, primes), (points[:n + 1], l, ()), (points[:n + 1], l),
                (((None, 1),) * (n + 1), l, primes), (points[:n + 1], 4, primes), (points[:n + 1], l, primes, 0),
            )
            for value in wrong:
                self.assertIs(is_certified(question, False, value), False, value)
        # Four points are none.
        self.assertIs(is_certified(("rank at most", curve, 3), False, ((*points, ()), 2, (5, 7))), False)

    def test_changes(self):
        curve, other = (0, 0, 0, -16, 16), (0, 0, 1, -1, 0)
        change = changes_between(curve, other)[0]
        self.assertEqual(tuple(f[0] for f in led(curve, change)), other)
        for at in range(4):
            for put in ((0, 1), (3, 7), (2, 4), [1, 1], None, (1, -1), (True, 1)):
                value = change[:at] + (put,) + change[at + 1:]
                self.assertIs(is_certified(("alike", curve, other), True, value), value == change and put not in (None,))

    def test_prime(self):
        for value, told in ((GREAT_CERT, False), (("small",), False), (("witness", 2), False)):
            self.assertIs(is_certified(("prime", 10 ** 18 + 9), True, value), told)
        for d in range(-3, 600):
            self.assertIs(is_certified(("prime", 561), False, ("factor", d)), 1 < d < 561 and 561 % d == 0)

    def test_plain_curves_that_are_great(self):
        for curve in ((10000, 9999, 0), (-9973, 9967, 0)):
            self.assertTrue(is_plain(curve))
            high = rank_bounds(curve, 0)[1]
            answer, certificate = certified(("rank at most", curve, high))
            self.assertIs(answer, True)
            self.assertIs(is_certified(("rank at most", curve, high), True, certificate), True)
            self.assertIs(is_certified(("rank at most", curve, high - 1), True, certificate), False)


class WordsTest(unittest.TestCase):
    def test_slow_classes(self):
        # The bars leave out just what the document asks for, for both sides.
        for curve in CURVES[:8]:
            rows = dict(bars_told(curve))
            left = [d for d in classes_slowly(curve[1]) if d not in rows]
            self.assertEqual(tuple(left), list_of(curve))


if __name__ == "__main__":
    unittest.main()
