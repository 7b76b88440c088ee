"""The errors of the package, and what they keep."""


class LetterError(ValueError):
    """Some value is not what it must be."""


class InvalidForm(LetterError):
    """A value is no form, or not the form that is wanted."""


class InvalidTable(LetterError):
    """A value is no table, or not the table that is wanted."""


class InvalidSum(LetterError):
    """A value is no sum, or not the sum that is wanted."""


class InvalidRatio(LetterError):
    """A value is no ratio."""


class InvalidPoint(LetterError):
    """A value is no point, or not the pair or tuple of points that is wanted."""


class InvalidRows(LetterError):
    """A value is no row list."""


class InvalidOperation(LetterError):
    """Each value is valid, but they do not go together."""


class ParseError(LetterError):
    """A text is none of a value."""

    def __init__(self, spot):
        self.spot = spot


class InvalidNumber(IndexError):
    """A value is no integer within its bounds."""

    def __init__(self, given):
        self.given = given


class UnknownName(KeyError):
    """Nothing has this name."""

    def __init__(self, name):
        self.name = name


class TooMany(OverflowError):
    """A result would go beyond a limit."""

    def __init__(self, limit):
        self.limit = limit


class Refused(ArithmeticError):
    """What is asked for cannot be done; the reason begins with a word."""

    def __init__(self, reason):
        self.reason = reason


class NothingToUndo(LookupError):
    """There are not so many steps to take back, or to do again."""

    def __init__(self, steps):
        self.steps = steps
