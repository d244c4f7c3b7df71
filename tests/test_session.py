import random
import unittest

from pointsum.errors import BadName, NameTaken, NoCurve, NothingToRedo, NothingToUndo, NotOn, UnknownName
from pointsum.finite import finite_part
from pointsum.points import multiple
from pointsum.session import Session
from pointsum.twomaps import beside
from tests.right_values import order_of_points

E, G = (0, 0, 1), (0, -25, 0)
P, Q, S = ((2, 1), (3, 1)), ((0, 1), (1, 1)), ((-1, 1), (0, 1))
BAD_NAMES = ("", "a" * 13, "A", "aB", "a1", "a b", " a", "a_", "\u00e4", "\u00df", "a\n", None, True, 0, 1, ("a",), ["a"], (), b"a", 1.5, {})
NO_CURVES = (
    None, (), (0, 0), (0, 0, 0), (0, 0, 0, 0), (0, 0, 1, -1, 0), [0, 0, 1], (0, 0, True), (0, 0, "1"), (10001, 0, 1), (0, -10001, 1), "001",
    (0, 0, 10 ** 1999), (1, 0, 0), (-2, 1, 0), (0, 0, None), 5, True, (0, 0, 1.0),
)
NOT_ON = (
    None, ((2, 1), (4, 1)), ((2, 1),), ((4, 2), (3, 1)), ((2, 1), (3, True)), ((2, 1), [3, 1]), [(2, 1), (3, 1)], (2, 3), "zero", [], 0, True,
    ((2, 1), (3, 1), (1, 1)), ((2, 0), (3, 1)), ((-2, -1), (3, 1)),
)


def state_of(session):
    return session.entries(), len(session)


class NameTest(unittest.TestCase):
    def test_entries(self):
        session = Session()
        self.assertEqual(session.entries(), ())
        self.assertEqual(len(session), 0)
        self.assertIsNone(session.name("b", E))
        self.assertIsNone(session.name("a", G))
        self.assertIsNone(session.name("abcdefghijkl", (10000, -10000, 10000)))
        self.assertIsNone(session.name("ab", E))
        self.assertEqual(session.entries(), (("a", G, ()), ("ab", E, ()), ("abcdefghijkl", (10000, -10000, 10000), ()), ("b", E, ())))
        self.assertEqual(len(session), 4)
        self.assertEqual(session.curve("a"), G)
        self.assertEqual(session.noted("a"), ())

    def test_errors_in_order(self):
        session = Session()
        session.name("e", E)
        before = state_of(session)
        for name in BAD_NAMES:
            for curve in (E, None):
                with self.assertRaises(BadName) as caught:
                    session.name(name, curve)
                self.assertIs(caught.exception.name, name)
        for curve in (E, G) + NO_CURVES:
            with self.assertRaises(NameTaken) as caught:
                session.name("e", curve)
            self.assertEqual(caught.exception.name, "e")
        for curve in NO_CURVES:
            self.assertRaises(NoCurve, session.name, "f", curve)
        self.assertEqual(state_of(session), before)
        session.undo()
        self.assertEqual(session.entries(), ())
        self.assertRaises(NothingToUndo, session.undo)

    def test_lengths_of_names(self):
        session = Session()
        for many in range(1, 13):
            session.name("z" * many, E)
        self.assertEqual(len(session), 12)
        self.assertRaises(BadName, session.name, "z" * 13, E)

    def test_great_plain_curves(self):
        # One beside is a plain curve in another sense ([4]); here the amounts count, as for is_plain.
        self.assertRaises(NoCurve, Session().name, "a", beside((200, 1, 0)))


class NoteTest(unittest.TestCase):
    def setUp(self):
        self.session = Session()
        self.session.name("e", E)

    def test_ascending_without_doubles(self):
        session = self.session
        points = list(finite_part(E))
        random.Random(1).shuffle(points)
        for point in points + points[:3]:
            self.assertIsNone(session.note("e", point))
        self.assertEqual(session.noted("e"), finite_part(E))
        self.assertEqual(session.entries(), (("e", E, finite_part(E)),))
        session.name("g", G)
        many = [multiple(G, n, ((-4, 1), (6, 1))) for n in (3, -2, 1, 5, -1, 0, 2)]
        for point in many:
            session.note("g", point)
        self.assertEqual(session.noted("g"), order_of_points(many))

    def test_errors(self):
        session = self.session
        session.note("e", P)
        before = state_of(session)
        for name in ("f", "", "E", None, 0, True, ("e",), ["e"], {}, "e "):
            for call in (lambda: session.note(name, None), lambda: session.strike(name, None), lambda: session.forget(name),
                         lambda: session.curve(name), lambda: session.noted(name)):
                with self.assertRaises(UnknownName) as caught:
                    call()
                self.assertIs(caught.exception.name, name)
        for point in NOT_ON:
            for call in (session.note, session.strike):
                with self.assertRaises(NotOn) as caught:
                    call("e", point)
                self.assertIs(caught.exception.point, point)
        with self.assertRaises(NotOn) as caught:
            session.strike("e", Q)
        self.assertEqual(caught.exception.point, Q)
        self.assertEqual(state_of(session), before)
        session.undo()
        self.assertEqual(session.noted("e"), ())

    def test_strike(self):
        session = self.session
        for point in (P, Q, S, ()):
            session.note("e", point)
        self.assertIsNone(session.strike("e", Q))
        self.assertEqual(session.noted("e"), ((), S, P))
        self.assertIsNone(session.strike("e", ()))
        self.assertEqual(session.noted("e"), (S, P))
        # True is no integer, though it is equal to 1.
        self.assertRaises(NotOn, session.strike, "e", ((2, True), (3, 1)))

    def test_forget(self):
        session = self.session
        session.note("e", P)
        self.assertIsNone(session.forget("e"))
        self.assertEqual(session.entries(), ())
        self.assertRaises(UnknownName, session.noted, "e")
        session.name("e", G)
        self.assertEqual(session.entries(), (("e", G, ()),))


class UndoTest(unittest.TestCase):
    def test_noting_twice_is_a_change(self):
        session = Session()
        session.name("e", E)
        session.note("e", P)
        session.note("e", P)
        self.assertEqual(session.noted("e"), (P,))
        self.assertIsNone(session.undo())
        self.assertEqual(session.noted("e"), (P,))
        session.undo()
        self.assertEqual(session.noted("e"), ())
        self.assertIsNone(session.redo())
        self.assertIsNone(session.redo())
        self.assertEqual(session.noted("e"), (P,))
        self.assertRaises(NothingToRedo, session.redo)

    def test_a_change_leaves_nothing_to_redo(self):
        session = Session()
        session.name("e", E)
        session.note("e", P)
        session.undo()
        session.note("e", Q)
        self.assertRaises(NothingToRedo, session.redo)
        self.assertEqual(session.noted("e"), (Q,))
        session.undo()
        session.undo()
        self.assertRaises(NothingToUndo, session.undo)
        self.assertEqual(len(session), 0)

    def test_an_error_leaves_what_there_is_to_redo(self):
        session = Session()
        session.name("e", E)
        session.note("e", P)
        session.undo()
        self.assertRaises(NotOn, session.note, "e", None)
        self.assertRaises(NameTaken, session.name, "e", E)
        self.assertRaises(UnknownName, session.forget, "f")
        session.redo()
        self.assertEqual(session.noted("e"), (P,))

    def test_any_row_of_changes(self):
        # Against a list of all states and a place in it.
        rng = random.Random(2)
        session = Session()
        states, at = [()], 0
        kinds = set()
        for _ in range(1500):
            word = rng.choice(("name", "note", "note", "strike", "forget", "undo", "undo", "redo", "redo"))
            name, point = rng.choice("abc"), rng.choice(finite_part(E))
            entries = {row[0]: row for row in states[at]}
            try:
                if word == "name":
                    session.name(name, E)
                    entries[name] = (name, E, ())
                elif word == "note":
                    session.note(name, point)
                    entries[name] = (name, E, order_of_points({*entries[name][2], point}))
                elif word == "strike":
                    session.strike(name, point)
                    entries[name] = (name, E, tuple(other for other in entries[name][2] if other != point))
                elif word == "forget":
                    session.forget(name)
                    del entries[name]
                elif word == "undo":
                    session.undo()
                    at -= 1
                else:
                    session.redo()
                    at += 1
                if word not in ("undo", "redo"):
                    states[at + 1:] = [tuple(entries[key] for key in sorted(entries))]
                    at += 1
                kinds.add(word)
            except (NameTaken, UnknownName, NotOn, NothingToUndo, NothingToRedo) as error:
                kinds.add(type(error))
            self.assertEqual(session.entries(), states[at])
            self.assertEqual(len(session), len(states[at]))
        self.assertEqual(len(kinds), 11)


class BlockTest(unittest.TestCase):
    def filled(self):
        session = Session()
        session.name("e", E)
        session.note("e", P)
        session.note("e", Q)
        session.undo()
        return session

    def test_all_is_taken_back(self):
        session = self.filled()
        before = state_of(session)
        with session as same:
            self.assertIs(same, session)
            session.name("f", G)
            session.strike("e", P)
            session.undo()
            session.undo()
            session.undo()
            session.undo()
            self.assertEqual(len(session), 0)
        self.assertEqual(state_of(session), before)
        # What there is to undo and to redo is as ahead.
        session.redo()
        self.assertEqual(session.noted("e"), (Q, P))
        self.assertRaises(NothingToRedo, session.redo)
        for _ in range(3):
            session.undo()
        self.assertRaises(NothingToUndo, session.undo)

    def test_an_error_goes_on(self):
        session = self.filled()
        before = state_of(session)
        with self.assertRaises(KeyError):
            with session:
                session.forget("e")
                raise KeyError("x")
        self.assertEqual(state_of(session), before)
        with self.assertRaises(NameTaken):
            with session as inside:
                inside.name("f", G)
                inside.name("f", G)
        self.assertEqual(state_of(session), before)
        session.redo()
        self.assertEqual(session.noted("e"), (Q, P))

    def test_blocks_in_blocks(self):
        session = self.filled()
        with session:
            session.note("e", S)
            with session:
                session.forget("e")
                with session:
                    session.name("e", G)
                self.assertEqual(len(session), 0)
            self.assertEqual(session.noted("e"), (S, P))
            session.undo()
            self.assertEqual(session.noted("e"), (P,))
            with session:
                session.redo()
                self.assertEqual(session.noted("e"), (S, P))
            session.redo()
            self.assertEqual(session.noted("e"), (S, P))
        self.assertEqual(session.noted("e"), (P,))
        session.redo()
        self.assertEqual(session.noted("e"), (Q, P))

    def test_return_out_of_a_block(self):
        session = self.filled()

        def inside():
            with session:
                session.forget("e")
                return len(session)

        self.assertEqual(inside(), 0)
        self.assertEqual(session.noted("e"), (P,))

    def test_the_same_session_again(self):
        session = self.filled()
        for _ in range(3):
            with session:
                session.name("f", G)
                session.note("f", ())
            self.assertRaises(UnknownName, session.curve, "f")


class EqualTest(unittest.TestCase):
    def test_same_entries(self):
        first, second = Session(), Session()
        self.assertTrue(first == second)
        self.assertFalse(first != second)
        first.name("a", E)
        self.assertTrue(first != second)
        second.name("b", G)
        second.name("a", E)
        self.assertFalse(first == second)
        first.name("b", G)
        # However it came.
        self.assertTrue(first == second)
        first.note("a", P)
        self.assertTrue(first != second)
        first.undo()
        self.assertTrue(first == second)
        second.note("a", P)
        second.note("a", Q)
        first.note("a", Q)
        first.note("a", P)
        self.assertTrue(first == second)
        self.assertFalse(first != second)

    def test_other_values(self):
        for value in (None, (), (("a", E, ()),), 0, "a"):
            self.assertFalse(Session() == value)
            self.assertTrue(Session() != value)

    def test_not_hashed(self):
        self.assertRaises(TypeError, hash, Session())

    def test_names_again(self):
        # The entries are those of the time of asking.
        session = Session()
        session.name("a", E)
        told = session.entries()
        session.note("a", P)
        self.assertEqual(told, (("a", E, ()),))

    def test_own_methods(self):
        for name in ("name", "note", "strike", "forget", "entries", "curve", "noted", "undo", "redo", "__eq__", "__len__", "__enter__", "__exit__"):
            self.assertIn(name, vars(Session))


if __name__ == "__main__":
    unittest.main()
