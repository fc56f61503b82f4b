"""The errors that the package raises.

Python itself keeps what an error is made with as its message, so the classes
with a field only store the field: whatever was passed is never formatted.
"""


class SpoilError(ValueError):
    """What all errors of the package derive from."""


class BadKind(SpoilError):
    """A part of a kind is not as told: "looks", "drifts" or "puts"."""

    def __init__(self, part):
        self.part = part


class NoStanding(SpoilError):
    """This is no standing of the kind."""


class NoStandings(SpoilError):
    """This is no list or tuple of standings of the kind."""


class NoWay(SpoilError):
    """This is no way from the standing."""


class NoRow(SpoilError):
    """This is no row of answers, or too long a one."""


class BadStore(SpoilError):
    """A store is made of something else than 1 to 5 kinds."""


class BadBook(SpoilError):
    """A book is made of something else than 1 to 12 layouts of its store."""


class NoLayout(SpoilError):
    """This is no layout of the store."""


class NotSure(SpoilError):
    """The kind, or one of the kinds, is not sure."""


class NoName(SpoilError):
    """This is no name of the book."""


class BadProgram(SpoilError):
    """A program is not as told: "steps", or the number of a wrong step."""

    def __init__(self, part):
        self.part = part


class OtherStore(SpoilError):
    """Two things that belong to one store have unlike ones."""


class NoTrace(SpoilError):
    """This is no trace of the program from the layout."""


class NoMove(SpoilError):
    """This is no move that the run can make now."""


class Ended(SpoilError):
    """The run has ended."""


class NoNumber(SpoilError):
    """This is no integer within the bounds."""


class NoDenial(SpoilError):
    """This is no denial of the book."""


class NoPrices(SpoilError):
    """These are no prices for the cells of the store."""


class TooLarge(SpoilError):
    """There are more standings than the greatest number that is worked on."""

    def __init__(self, most):
        self.most = most


class TooMany(SpoilError):
    """There would be more cells than a store can have."""

    def __init__(self, most):
        self.most = most


class NoMenu(SpoilError):
    """This is no menu of kinds and prices."""


class NoLengths(SpoilError):
    """This is no tuple of lengths."""


class NoCell(SpoilError):
    """This is no cell of the store."""


class NoStandIn(SpoilError):
    """This is no stand-in of the kind for the other one."""


class NoLog(SpoilError):
    """This is no log for the book."""


class BadText(SpoilError):
    """A line of a text has none of the forms; 0 for what is no text."""

    def __init__(self, line):
        self.line = line


class NoLine(SpoilError):
    """This is no line that the desk knows."""


class NoWord(SpoilError):
    """Nothing of its sort is kept under the word."""

    def __init__(self, word):
        self.word = word


class NoneLed(SpoilError):
    """No run is led."""


class NothingDone(SpoilError):
    """There is nothing to take back."""
