"""Curves told as texts."""

from curveyard.curves import Curve, Part
from curveyard.errors import BadRow, CornerTwice, Unmet
from curveyard.figures import is_word
from curveyard.fitting import meeting_of
from curveyard.numbering import full
from curveyard.turns import corner_of, corner_text, turn_of, turn_text

PROMISES = {"joined": True, "loose": False}
DIMS = {"2": 2, "3": 3}


def curve_text(curve):
    """The text of a curve."""
    return "\n".join(curve_rows(curve))


def curve_rows(curve):
    """The rows of a curve's text."""
    promise = "joined" if curve.joined else "loose"
    head = " ".join(["curve", curve.name, promise, str(curve.dims)])
    return [head] + [part_row(part) for part in curve.parts]


def part_row(part):
    words = ["part", corner_text(part.corner), turn_text(part.turn)]
    if part.back:
        words.append("back")
    return " ".join(words)


def curve_of(text):
    """The curve that a whole text tells; refused with BadRow, CornerTwice, Unmet."""
    rows = text.split("\n")
    curve = curve_from(rows)
    told = 1 + len(curve.parts)
    if len(rows) > told:
        raise BadRow(told + 1)
    return fitted(curve)


def curve_from(rows):
    """The curve that the first rows of a list tell; refused with BadRow, CornerTwice."""
    name, joined, dims = read_head(words_at(rows, 1))
    parts = []
    seen = {}
    for row in range(2, 2 + full(dims, 1)):
        part = read_part(words_at(rows, row), dims, row)
        if part.corner in seen:
            raise CornerTwice(row)
        seen[part.corner] = True
        parts.append(part)
    return Curve(name, dims, joined, parts)


def words_at(rows, row):
    if row > len(rows):
        raise BadRow(row)
    # One blank parts two words, so any other blank leaves an empty word,
    # which is of no form.
    return rows[row - 1].split(" ")


def read_head(words):
    if len(words) != 4 or words[0] != "curve" or not is_word(words[1]):
        raise BadRow(1)
    if words[2] not in PROMISES or words[3] not in DIMS:
        raise BadRow(1)
    return (words[1], PROMISES[words[2]], DIMS[words[3]])


def read_part(words, dims, row):
    back = words[3:] == ["back"]
    if words[0] != "part" or len(words) != (4 if back else 3):
        raise BadRow(row)
    corner = corner_of(words[1], dims)
    turn = turn_of(words[2], dims)
    if corner is None or turn is None:
        raise BadRow(row)
    return Part(corner, turn, back)


def fitted(curve):
    """The very curve where it keeps its promise; refused with Unmet."""
    unmet = meeting_of(curve) if curve.joined else None
    if unmet is not None:
        first, level = unmet
        raise Unmet(first, first + 1, level)
    return curve
