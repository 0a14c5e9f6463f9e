"""The errors that the package raises."""


class RingError(ValueError):
    """A value is not of the form that is asked for."""


class InvalidChain(RingError):
    """A value is no chain, or no ring."""


class InvalidDeal(RingError):
    """A value is no deal."""


class InvalidTuple(RingError):
    """A value is no tuple of places, or no class."""


class InvalidWeb(RingError):
    """A value is no web."""


class InvalidHeap(RingError):
    """A value is no heap."""


class InvalidMap(RingError):
    """A value is no map."""


class InvalidWord(RingError):
    """A value is no word."""


class InvalidFilling(RingError):
    """A value is no filling."""


class InvalidBox(RingError):
    """A value is no box of classes."""


class InvalidName(RingError):
    """A value is no name."""


class InvalidOperation(RingError):
    """A value is nothing that can be done, or nothing to do it with."""


class ParseError(RingError):
    """A text is wrong at a spot."""

    def __init__(self, spot):
        self.spot = spot


class InvalidNumber(IndexError):
    """A number is of the wrong kind, or out of range."""

    def __init__(self, given):
        self.given = given


class UnknownName(KeyError):
    """A name is not there."""

    def __init__(self, asked):
        self.asked = asked


class NothingToUndo(LookupError):
    """There is not so much to undo."""

    def __init__(self, many):
        self.many = many


class TooMany(OverflowError):
    """A limit would be passed."""

    def __init__(self, limit):
        self.limit = limit


class Refused(ArithmeticError):
    """Something is not done, for a reason."""

    def __init__(self, reason):
        self.reason = reason
