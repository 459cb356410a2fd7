"""The refusals of the program, one class for each."""


class RowError(ValueError):
    """Any refusal."""


class NoGrid(RowError):
    """The shape of a grid does not fit."""


class NoStep(RowError):
    """A step names no row or column, or one twice."""


class NoBack(RowError):
    """A grid can't be turned back."""


class NoTable(RowError):
    """A list is no table."""


class NoWhole(RowError):
    """A table or a reader does not hang together."""


class NoBars(RowError):
    """The number of signs or the bars are none."""


class TooMany(RowError):
    """There are more things than are gone through."""


class NoWord(RowError):
    """A word is no window, or a place is none."""


class NoReader(RowError):
    """A tuple is no reader."""


class NotOneWay(RowError):
    """A reader does not read one way."""


class NoMove(RowError):
    """A move can't be done."""


class Ring(RowError):
    """A table is a ring."""


class NoText(RowError):
    """A text writes no table or move."""


class NoRow(RowError):
    """A row told to the desk asks for nothing."""
