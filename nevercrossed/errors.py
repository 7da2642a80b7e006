"""The exceptions of the package. The field `value` is the argument that the exception is about."""


class NevercrossedError(ValueError):
    """The base class of all exceptions of the package."""

    def __init__(self, value):
        self.value = value
        # For those who answer with the name of what was raised.
        self.name = self.__class__.__name__


class InvalidNumber(NevercrossedError):
    """The value is not an integer within the limits."""


class InvalidDirection(NevercrossedError):
    """The value is not a direction, or there is no edge in this direction."""


class InvalidPoint(NevercrossedError):
    """The value is not a point, or not one of the kind that is asked for."""


class InvalidPoints(NevercrossedError):
    """The value is not a list of points of the kind that is asked for."""


class InvalidEdge(NevercrossedError):
    """The value is a tuple of two points that are not neighbors."""


class InvalidEdges(NevercrossedError):
    """The value is not a list of edges."""


class InvalidWalk(NevercrossedError):
    """The value is not a walk."""


class InvalidWalks(NevercrossedError):
    """The value is not a list of walks."""


class InvalidFigure(NevercrossedError):
    """The value is not a Figure."""


class InvalidTurns(NevercrossedError):
    """The value is not a dict of the words of a plan, or not a word."""


class InvalidPlan(NevercrossedError):
    """The value is not a Plan."""


class InvalidCells(NevercrossedError):
    """The value is not a list of cells, or not a cell."""


class InvalidColor(NevercrossedError):
    """The value is not a color."""


class InvalidWishes(NevercrossedError):
    """The value is not a dict of wished words."""


class InvalidPrices(NevercrossedError):
    """The value is not a dict of prices."""


class InvalidPaths(NevercrossedError):
    """The value is not a list of the paths of a plan."""


class InvalidDeed(NevercrossedError):
    """The value is not a deed."""


class InvalidDeeds(NevercrossedError):
    """The value is not a list of deeds."""


class InvalidLine(NevercrossedError):
    """The value is not a command line."""


class BadText(NevercrossedError):
    """The text is faulty; the value is the number of its first faulty row."""


class TooLarge(NevercrossedError):
    """There are more things than the limit allows; the value is their number."""


class BeyondPaper(NevercrossedError):
    """The value is a figure that would not be on the paper any more."""


class NotEven(NevercrossedError):
    """The figure is not even; the value is its least odd point."""


class NotOnePiece(NevercrossedError):
    """The value is a figure that has not exactly one piece."""


class NotOneLine(NevercrossedError):
    """The value is a plan that has not exactly one line."""


class UnlikeFigures(NevercrossedError):
    """The value is a plan of another figure."""


class NothingToUndo(NevercrossedError):
    """The value is a book without a change that could be taken back."""
