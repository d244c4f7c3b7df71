"""A desk that answers lines about the entries of a session."""

from math import gcd

from pointsum.errors import BadName, BadNumber, NameTaken, NoCurve, NothingToRedo, NothingToUndo, NotOn, TooGreat
from pointsum.errors import UnknownName, WrongForm
from pointsum.finite import finite_form, order_of
from pointsum.lists import rank_bounds
from pointsum.points import added, is_point, multiple

DIGITS = "0123456789"
MOST_TIMES = 20
# What stands behind NAME in a line of each first word: numbers (n) and points (p).
FORMS = {
    "name": "nnn", "note": "p", "strike": "p", "forget": "", "sum": "pp", "times": "np", "order": "p", "finite": "",
    "rank": "n", "noted": "",
}


def number_read(word):
    """The number that a word is; None if it is none."""
    figures = word[1:] if word.startswith("-") else word
    if figures == "" or not all([figure in DIGITS for figure in figures]):
        return None
    if figures.startswith("0") and word != "0":
        return None
    return int(word)


def fraction_read(word):
    """The fraction that a word is; None if it is none."""
    if "/" not in word:
        n = number_read(word)
        return None if n is None else (n, 1)
    upper, _, lower = word.partition("/")
    n, d = number_read(upper), number_read(lower)
    if n is None or d is None or d < 2 or gcd(n, d) != 1:
        return None
    return (n, d)


def point_read(word):
    """The pair of fractions, or (), that a word is; None if it is none."""
    if word == "zero":
        return ()
    first, _, second = word.partition(",")
    letters = (fraction_read(first), fraction_read(second))
    return None if None in letters else letters


def fraction_shown(f):
    """A fraction as a word."""
    n, d = f
    return str(n) if d == 1 else f"{n}/{d}"


def point_shown(point):
    """A point as a word."""
    return "zero" if point == () else ",".join([fraction_shown(f) for f in point])


def things_read(form, words):
    """The list of the numbers and points that words of a form are; None if one is none or their number is another."""
    if len(form) != len(words):
        return None
    things = [number_read(word) if kind == "n" else point_read(word) for kind, word in zip(form, words)]
    return None if None in things else things


class Desk:
    """A desk over a session, which is used and changed."""

    def __init__(self, session):
        self.session = session

    def answer(self, line):
        """The answer to a line."""
        words = [word for word in line.split(" ") if word != ""]
        if words == ["undo"] or words == ["redo"]:
            return self._guarded(words[0], "", [])
        if len(words) < 2 or words[0] not in FORMS:
            return "what"
        things = things_read(FORMS[words[0]], words[2:])
        if things is None or (words[0] == "times" and abs(things[0]) > MOST_TIMES):
            return "what"
        return self._guarded(words[0], words[1], things)

    def _guarded(self, word, name, things):
        """What a line of a right form is answered by, an error by its word."""
        try:
            return self._done(word, name, things)
        except BadName:
            return "error badname"
        except NameTaken:
            return "error nametaken"
        except NoCurve:
            return "error nocurve"
        except UnknownName:
            return "error unknownname"
        except NotOn:
            return "error noton"
        except NothingToUndo:
            return "error nothingtoundo"
        except NothingToRedo:
            return "error nothingtoredo"
        except TooGreat:
            return "error toogreat"
        except WrongForm:
            return "error wrongform"
        except BadNumber:
            return "error badnumber"

    def _done(self, word, name, things):
        """Does a change and answers "ok", or tells what is asked."""
        session = self.session
        if word == "undo":
            session.undo()
        elif word == "redo":
            session.redo()
        elif word == "name":
            session.name(name, tuple(things))
        elif word == "note":
            session.note(name, things[0])
        elif word == "strike":
            session.strike(name, things[0])
        elif word == "forget":
            session.forget(name)
        elif word == "noted":
            return " ".join([point_shown(point) for point in session.noted(name)])
        else:
            return told_of(session.curve(name), word, things)
        return "ok"


def told_of(curve, word, things):
    """What is asked of the curve of an entry."""
    if word == "finite":
        n1, n2 = finite_form(curve)
        return f"{n1} {n2}"
    if word == "rank":
        lower, upper = rank_bounds(curve, things[0])
        return f"{lower} {upper}"
    return told_of_points(curve, word, things)


def told_of_points(curve, word, things):
    """What is asked of points, which are to be on the curve."""
    points = [thing for thing in things if isinstance(thing, tuple)]
    for point in points:
        if not is_point(curve, point):
            raise NotOn(point)
    if word == "sum":
        return point_shown(added(curve, points[0], points[1]))
    if word == "times":
        return point_shown(multiple(curve, things[0], points[0]))
    order = order_of(curve, points[0])
    return "none" if order is None else str(order)
