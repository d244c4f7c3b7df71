"""The errors of the package. Texts are fixed, as a number in a field may have any length."""


class PointsumError(ValueError):
    """What all errors of this package stand under."""

    def __init__(self, text="this cannot be done"):
        super().__init__(text)


class TooGreat(PointsumError):
    """Something grew beyond its limit; what: which limit."""

    def __init__(self, what):
        super().__init__("something is too great")
        self.what = what


class NoCurve(PointsumError):
    """A value is no plain curve."""


class NotOn(PointsumError):
    """A value is no point of its curve, or a point is not noted."""

    def __init__(self, point):
        super().__init__("the point is not there")
        self.point = point


class WrongForm(PointsumError):
    """A plain curve has not the form that is asked for."""


class BadNumber(PointsumError):
    """A number is not one of those that may be passed."""

    def __init__(self, number):
        super().__init__("the number does not fit")
        self.number = number


class OutOfRange(PointsumError):
    """A number lies where nothing is told."""

    def __init__(self, number):
        super().__init__("the number is out of range")
        self.number = number


class Open(PointsumError):
    """No answer was found."""


class BadName(PointsumError):
    """A name is not of the told form."""

    def __init__(self, name):
        super().__init__("the name is not of the told form")
        self.name = name


class NameTaken(PointsumError):
    """A name has an entry already."""

    def __init__(self, name):
        super().__init__("the name has an entry")
        self.name = name


class UnknownName(PointsumError):
    """A name has no entry."""

    def __init__(self, name):
        super().__init__("the name has no entry")
        self.name = name


class NothingToUndo(PointsumError):
    """No change is left to take back."""


class NothingToRedo(PointsumError):
    """No change is left to do again."""
