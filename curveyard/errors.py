"""The refusals, each a class of its own.

Their words tell none of the numbers that are refused: these may be of any
length, and Python does not write numbers of some thousand figures.
"""


class YardError(ValueError):
    """Any refusal."""


class OffFloor(YardError):
    """A number, a place or a box that the floor does not have."""


class TooWide(YardError):
    """A box of more places than are listed one by one."""


class BadBox(YardError):
    """A low place that lies above the high one along an axis."""


class Twice(YardError):
    """Something that is there already."""


class NoThing(YardError):
    """A name that no thing has."""


class NoEntry(YardError):
    """An entry that is not in the store."""


# The errors below leave what they were made with as Python keeps it by itself,
# so that a copy of one is made with the same values and has the same fields.


class TextError(YardError):
    """A text that can't be read; row is the number of the row, from 1."""

    def __init__(self, row):
        self.row = row


class BadRow(TextError):
    """A row that is missing or not of its form."""


class CornerTwice(TextError):
    """A part's row with a corner that an earlier one has."""


class Unmet(YardError):
    """Two next parts of a joined curve that do not meet at a level."""

    def __init__(self, first, second, level):
        self.first = first
        self.second = second
        self.level = level
