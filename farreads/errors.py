"""The errors that the program raises."""


class ReadError(ValueError):
    """The base of all errors of the program; `value` is what was wrong."""

    def __init__(self, value):
        self.value = value


class InvalidSystem(ReadError):
    """A list of tables makes no system; the value is the number of the table, or -1."""


class InvalidName(ReadError):
    """A text is no name for a table, or two tables would have it."""


class InvalidAxes(ReadError):
    """A tuple does not have each coordinate once."""


class UnknownTable(ReadError):
    """A system has no table of this name."""


class InvalidCell(ReadError):
    """The point of a cell does not fit the system."""


class InvalidRead(ReadError):
    """A tuple names no read of the system, or is no read that it can have."""


class InvalidShifts(ReadError):
    """A dict is no shift of a system; the value is the first name that is wrong."""


class InvalidNumber(ReadError):
    """An integer is too small or too great."""


class NotReady(ReadError):
    """There are ways of every length from a cell."""


class NoFar(ReadError):
    """A system has no schedule."""


class NothingToUndo(ReadError):
    """A sheet has no call to take back."""


class Unreadable(ReadError):
    """Nothing has this text."""
