import random
import unittest

from pointsum.desk import Desk
from pointsum.finite import finite_form, order_of
from pointsum.lists import rank_bounds
from pointsum.points import added, multiple
from pointsum.search import box_of
from pointsum.session import Session
from tests.test_saturation import GROUPS


def shown_fraction(f):
    return str(f[0]) if f[1] == 1 else f"{f[0]}/{f[1]}"


def shown_point(point):
    return "zero" if point == () else ",".join(map(shown_fraction, point))


class DeskTest(unittest.TestCase):
    def setUp(self):
        self.session = Session()
        self.desk = Desk(self.session)

    def says(self, *pairs):
        for line, answer in pairs:
            self.assertEqual(self.desk.answer(line), answer, line)

    def test_example(self):
        self.says(
            ("name e 0 0 1", "ok"), ("order e 2,3", "6"), ("sum e 2,3 0,1", "-1,0"), ("sum e 2,3 1,1", "error noton"), ("finite e", "1 6"),
        )

    def test_every_form_of_line(self):
        self.says(
            ("name e 0 0 1", "ok"), ("note e 2,3", "ok"), ("note e zero", "ok"), ("note e 0,-1", "ok"), ("noted e", "zero 0,-1 2,3"),
            ("strike e zero", "ok"), ("noted e", "0,-1 2,3"), ("undo", "ok"), ("noted e", "zero 0,-1 2,3"), ("redo", "ok"),
            ("noted e", "0,-1 2,3"), ("sum e 0,-1 0,1", "zero"), ("sum e zero 2,3", "2,3"), ("times e 0 2,3", "zero"),
            ("times e 5 2,3", "2,-3"), ("times e -2 2,3", "0,-1"), ("times e 20 2,3", "0,1"), ("times e -20 2,3", "0,-1"),
            ("order e zero", "1"), ("order e -1,0", "2"), ("finite e", "1 6"), ("forget e", "ok"), ("noted e", "error unknownname"),
            ("undo", "ok"), ("noted e", "0,-1 2,3"), ("name f 0 -25 0", "ok"), ("rank f 0", "0 1"), ("rank f 200", "1 1"),
            ("order f -4,6", "none"), ("times f 2 -4,6", "1681/144,-62279/1728"), ("sum f 1681/144,-62279/1728 4,-6", "error noton"),
            ("sum f 1681/144,-62279/1728 -4,-6", "-4,6"), ("finite f", "2 2"), ("noted f", ""), ("name g 0 -1 0", "ok"), ("rank g 7", "0 0"),
        )
        self.assertEqual(len(self.session), 3)

    def test_errors(self):
        self.says(
            ("undo", "error nothingtoundo"), ("redo", "error nothingtoredo"), ("name E 0 0 1", "error badname"),
            ("name abcdefghijklm 0 0 1", "error badname"), ("name e/ 0 0 0", "error badname"), ("name abcdefghijkl 0 0 1", "ok"),
            ("name abcdefghijkl 0 0 0", "error nametaken"), ("name e 0 0 0", "error nocurve"), ("name e 0 0 10001", "error nocurve"),
            ("name e 0 0 1", "ok"), ("note e 1,1", "error noton"), ("strike e 2,3", "error noton"), ("note f 2,3", "error unknownname"),
            ("strike f 2,3", "error unknownname"), ("forget f", "error unknownname"), ("sum f 1,1 1,1", "error unknownname"),
            ("times f 2 1,1", "error unknownname"), ("order f 1,1", "error unknownname"), ("finite f", "error unknownname"),
            ("rank f 500", "error unknownname"), ("noted F", "error unknownname"), ("noted 0", "error unknownname"),
            ("sum e 2,3 2,4", "error noton"), ("sum e 2,4 2,3", "error noton"), ("times e 2 2,4", "error noton"),
            ("order e 2,4", "error noton"), ("rank e 5", "error wrongform"), ("rank e 500", "error wrongform"),
            ("name g 0 17 0", "ok"), ("rank g 201", "error badnumber"), ("rank g -1", "error badnumber"), ("rank g 10", "0 2"),
        )
        # Errors change nothing.
        self.assertEqual(self.session.entries(), (("abcdefghijkl", (0, 0, 1), ()), ("e", (0, 0, 1), ()), ("g", (0, 17, 0), ())))

    def test_too_great(self):
        self.says(("name f 0 -25 0", "ok"))
        P = ((-4, 1), (6, 1))
        great = shown_point(multiple((0, -25, 0), 8, P))
        told = self.desk.answer("times f 3 " + great)
        self.assertEqual(told, shown_point(multiple((0, -25, 0), 24, P)))
        self.says(("times f 20 " + great, "error toogreat"), ("times f 21 " + great, "what"))

    def test_blanks(self):
        self.says(
            ("  name   e 0  0    1 ", "ok"), (" noted e", ""), ("noted e   ", ""), ("   undo  ", "ok"), ("redo ", "ok"), ("", "what"), (" ", "what"),
            ("     ", "what"), ("order e 2, 3", "what"), ("order e 2 ,3", "what"), ("order e 2,3 ", "6"), ("order e - 1,0", "what"),
        )

    def test_what(self):
        self.says(("name e 0 0 1", "ok"))
        lines = (
            "x", "Name f 0 0 1", "NAME f 0 0 1", "name", "name f", "name f 0", "name f 0 0", "name f 0 0 1 1", "undo 1", "redo e", "undo undo",
            "note", "note e", "note e 2,3 2,3", "note e 2", "note e 2,3,4", "note e ,", "note e 2,", "note e ,3", "note e Zero", "note e ZERO",
            "note e zero,zero", "note e ()", "strike e", "strike e 2", "strike e 2,3 0,1", "forget", "forget e e", "sum e", "sum e 2,3",
            "sum e 2,3 0,1 0,1", "sum e 2,3 x", "sum e x 2,3", "times e", "times e 2", "times e 2,3", "times e 2,3 2", "times e x 2,3",
            "times e 21 2,3", "times e -21 2,3", "times e 1/2 2,3", "times e 2 2,3 2,3", "times e +2 2,3", "order", "order e", "order e 2,3 2,3",
            "order e 2;3", "finite", "finite e e", "finite e 1", "rank", "rank e", "rank e x", "rank e 1 1", "rank e 1/2", "rank e 2,3", "noted",
            "noted e e", "noted e 2,3", "e", "entries", "curve e", "name f 0 0 zero", "name f 0,0 0 1", "undo~", "~", "!",
        )
        before = self.session.entries()
        for line in lines:
            self.says((line, "what"))
        self.assertEqual(self.session.entries(), before)

    def test_what_comes_ahead_of_errors(self):
        self.says(("order f x", "what"), ("sum f 2,3", "what"), ("times f 21 2,3", "what"), ("rank f x", "what"), ("name E 0 0", "what"))

    def test_numbers(self):
        right = ("0", "1", "-1", "20", "-20", "10", "7")
        wrong = ("-0", "00", "01", "-01", "+1", "1.0", "1e1", "0x1", "--1", "1-", "-", "", "1_0", "one", "1/1", "2/1", "1,", "'1'", "zero")
        self.says(("name e 0 0 1", "ok"))
        for word in right:
            self.says(("times e " + word + " -1,0", "zero" if int(word) % 2 == 0 else "-1,0"))
        for word in wrong:
            self.says(("times e " + word + " -1,0", "what"), ("rank e " + word, "what"), ("name f 0 0 " + word, "what"))
        # Great numbers are numbers.
        self.says(("rank e " + "9" * 1900, "error wrongform"), ("name f 0 0 -" + "9" * 1900, "error nocurve"), ("times e " + "9" * 1900 + " -1,0", "what"))

    def test_fractions(self):
        self.says(("name f 0 -25 0", "ok"))
        P = "1681/144,-62279/1728"
        self.says(("order f " + P, "none"))
        for word in (
            "3362/288,-62279/1728", "1681/-144,-62279/1728", "1681/144,62279/-1728", "-1681/-144,-62279/1728", "1681/0144,-62279/1728",
            "01681/144,-62279/1728", "1681/144/1,-62279/1728", "1681//144,-62279/1728", "/144,-62279/1728", "1681/,-62279/1728",
            "0/2,0", "0/1,0", "5/1,0", "-0,0", "0,-0", "00,0", "1681/0,0", "1681/144.,0", "5/5,0", "10/2,0", "1/-2,0",
        ):
            self.says(("order f " + word, "what"))
        for word in ("1681/144,62279/1730", "1/2,1/3", "1681/145,-62279/1728", "0,1", "-1/2,0"):
            self.says(("order f " + word, "error noton"))
        self.says(("order f 0,0", "2"), ("order f -5,0", "2"))

    def test_against_the_functions(self):
        rng = random.Random(1)
        for at, (curve, _) in enumerate(GROUPS):
            name = "abcdefg"[at]
            self.says((f"name {name} {curve[0]} {curve[1]} {curve[2]}", "ok"))
            box = box_of(curve, 200)
            for _ in range(10):
                P, Q, n = rng.choice(box), rng.choice(box), rng.randint(-20, 20)
                p, q = shown_point(P), shown_point(Q)
                order = order_of(curve, P)
                self.says(
                    (f"sum {name} {p} {q}", shown_point(added(curve, P, Q))), (f"times {name} {n} {p}", shown_point(multiple(curve, n, P))),
                    (f"order {name} {p}", "none" if order is None else str(order)),
                )
            self.says((f"finite {name}", "%d %d" % finite_form(curve)))
            self.says((f"rank {name} 50", "%d %d" % rank_bounds(curve, 50) if curve[2] == 0 else "error wrongform"))

    def test_the_session_is_used(self):
        self.session.name("e", (0, 0, 1))
        self.session.note("e", ((2, 1), (3, 1)))
        self.says(("noted e", "2,3"), ("note e zero", "ok"))
        self.assertEqual(self.session.noted("e"), ((), ((2, 1), (3, 1))))
        with self.session:
            self.says(("forget e", "ok"), ("noted e", "error unknownname"))
        self.says(("noted e", "zero 2,3"))
        # Two desks over one session.
        self.assertEqual(Desk(self.session).answer("noted e"), "zero 2,3")
        self.assertEqual(Desk(Session()).answer("noted e"), "error unknownname")

    def test_great_points(self):
        curve, P = (0, 0, -2), ((3, 1), (5, 1))
        self.says(("name h 0 0 -2", "ok"))
        great = multiple(curve, 24, P)
        line = "note h " + shown_point(great)
        self.assertTrue(1000 < len(line) <= 2000)
        self.says((line, "ok"), ("noted h", shown_point(great)))
        half = shown_point(multiple(curve, 12, P))
        self.says((f"sum h {half} {half}", shown_point(great)))


if __name__ == "__main__":
    unittest.main()
