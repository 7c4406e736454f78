"""What the tests of texts need: the rows of some curves, rows that are put wrong, and a check of what refuses them."""

import unittest

from curveyard.errors import Unmet

HILBERT = ["curve hilbert joined 2", "part 00 +y+x", "part 01 +x+y", "part 11 +x+y", "part 10 -y-x"]
SQUARE = ["curve square loose 2", "part 10 -y+x back", "part 00 -x+y", "part 11 +y-x back", "part 01 +x+y back"]
CUBE = [
    "curve cube loose 3", "part 010 +y-z+x", "part 110 -z+x-y back", "part 000 +x+y+z back", "part 101 -x+z+y",
    "part 111 +z-y-x", "part 011 -y-x-z back", "part 001 +y+z-x back", "part 100 -z-x+y",
]
WINDING = [
    "curve winding joined 3", "part 000 -z+y+x back", "part 100 +y+z+x", "part 110 +y-z+x back", "part 010 -y-x+z",
    "part 011 -x-y+z", "part 111 +y-z-x", "part 101 +y-z-x", "part 001 -z+y-x",
]

BAD_NAMES = ["", "abcdefghijklm", "Hilbert", "hilberT", "curve1", "a-b", "a_b", "a,b", "\u00e4", "a\n", "a\t", "1", "0"]


def with_row(rows, number, row):
    """The rows with another one under that number."""
    return rows[:number - 1] + [row] + rows[number:]


def blanks_put_wrong(row):
    """The row with a blank more, or one instead of which something else stands, at every place."""
    words = row.split(" ")
    texts = [" " + row, row + " ", "  " + row, row + "  ", "\t" + row, row + "\t", " " + row + " ", row + "\r"]
    for place in range(1, len(words)):
        ahead, behind = " ".join(words[:place]), " ".join(words[place:])
        for between in ("  ", "   ", "\t", " \t", "\u00a0", ",", "", "_"):
            texts.append(ahead + between + behind)
    return texts


def words_missing(row):
    words = row.split(" ")
    return [" ".join(words[:place] + words[place + 1:]) for place in range(len(words))]


class RefusedRows(unittest.TestCase):
    def refused_by(self, kind, row, read, told_by):
        with self.assertRaises(kind, msg=repr(told_by)) as caught:
            read(told_by)
        self.assertIs(type(caught.exception), kind, told_by)
        self.assertEqual(caught.exception.row, row, told_by)
        self.assertIs(type(caught.exception.row), int)

    def unmet(self, ask, value, wanted):
        with self.assertRaises(Unmet) as caught:
            ask(value)
        error = caught.exception
        self.assertIs(type(error), Unmet)
        self.assertEqual((error.first, error.second, error.level), wanted)
        self.assertEqual({type(error.first), type(error.second), type(error.level)}, {int})
