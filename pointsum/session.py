"""Sessions: named plain curves with noted points, with undo and redo."""

from pointsum.curves import is_plain
from pointsum.errors import BadName, NameTaken, NoCurve, NothingToRedo, NothingToUndo, NotOn, UnknownName
from pointsum.points import ascending_points, is_point

MOST_LETTERS = 12
LETTERS = "abcdefghijklmnopqrstuvwxyz"


def is_name(value):
    """Whether a value, any one, is a row of 1 to 12 letters a to z."""
    if not isinstance(value, str) or not 1 <= len(value) <= MOST_LETTERS:
        return False
    return all([letter in LETTERS for letter in value])


def ordered(points):
    """The tuple of some unlike points, ascending."""
    others = ascending_points([point for point in points if point != ()])
    return ((), *others) if () in points else tuple(others)


class Saved:
    """What a session was when a block was entered, and what was saved for the block around it."""

    def __init__(self, table, past, later, outer):
        self.table = table
        self.past = past
        self.later = later
        self.outer = outer


class Session:
    """Entries: a dict from each name to its curve and its noted points. No dict is changed once it is made."""

    def __init__(self):
        self._table = {}
        self._past = []
        self._later = []
        self._saved = None

    def __eq__(self, other):
        """Whether both have the same entries."""
        return isinstance(other, Session) and self.entries() == other.entries()

    def __len__(self):
        """The number of entries."""
        return len(self._table)

    def __enter__(self):
        """Begins a block at whose end all is as it is now."""
        self._saved = Saved(self._table, list(self._past), list(self._later), self._saved)
        return self

    def __exit__(self, kind, value, trace):
        """Ends the block; an error goes on."""
        saved = self._saved
        self._table = saved.table
        self._past = saved.past
        self._later = saved.later
        self._saved = saved.outer

    def name(self, name, curve):
        """Makes an entry without points."""
        if not is_name(name):
            raise BadName(name)
        if name in self._table:
            raise NameTaken(name)
        if not is_plain(curve):
            raise NoCurve()
        self._change(name, (curve, ()))

    def note(self, name, point):
        """Notes a point of the curve of an entry."""
        curve, points = self._entry(name)
        if not is_point(curve, point):
            raise NotOn(point)
        self._change(name, (curve, points if point in points else ordered((*points, point))))

    def strike(self, name, point):
        """Strikes a noted point."""
        curve, points = self._entry(name)
        if not is_point(curve, point) or point not in points:
            raise NotOn(point)
        self._change(name, (curve, tuple([other for other in points if other != point])))

    def forget(self, name):
        """Takes an entry away."""
        self._entry(name)
        self._change(name, None)

    def undo(self):
        """Takes back the last change that has not been undone."""
        if self._past == []:
            raise NothingToUndo()
        self._later.append(self._table)
        self._table = self._past.pop()

    def redo(self):
        """Does the last change again that was undone."""
        if self._later == []:
            raise NothingToRedo()
        self._past.append(self._table)
        self._table = self._later.pop()

    def entries(self):
        """The tuple of (name, curve, points), ascending by name."""
        return tuple([(name, *self._table[name]) for name in sorted(self._table)])

    def curve(self, name):
        """The curve of an entry."""
        return self._entry(name)[0]

    def noted(self, name):
        """The noted points of an entry."""
        return self._entry(name)[1]

    def _entry(self, name):
        """The curve and the points of an entry."""
        if not isinstance(name, str) or name not in self._table:
            raise UnknownName(name)
        return self._table[name]

    def _change(self, name, entry):
        """Puts an entry, or none if it is None, in the place of that of a name."""
        self._past.append(self._table)
        self._later = []
        table = {other: self._table[other] for other in self._table if other != name}
        if entry is not None:
            table[name] = entry
        self._table = table
