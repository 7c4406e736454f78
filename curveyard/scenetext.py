"""Scenes, and how they are told as texts."""

from curveyard.curvetext import curve_from, curve_rows, fitted, words_at
from curveyard.errors import BadRow
from curveyard.figures import is_word, number_of
from curveyard.placetext import place_of, place_text

MOST_LEVEL = {2: 6, 3: 4}
LEAST_SIZE = 4
MOST_SIZE = 12
LEAST_MANY = 1
MOST_MANY = 999
MOST_DEEDS = 400

# The kinds of the words behind the first one of a deed's row.
FORMS = {
    "put": ("name", "place", "place"),
    "move": ("name", "place", "place"),
    "take": ("name",),
    "names": (),
    "where": ("name",),
    "inside": ("place", "place"),
    "meeting": ("place", "place"),
    "near": ("place", "many"),
    "sharing": (),
    "number": ("place",),
    "place": ("number",),
    "spans": ("place", "place"),
    "cover": ("place", "place", "many"),
}


class Scene:
    """A curve, a level and a page size, of which a yard is made, and the deeds to be done in it."""

    def __init__(self, curve, level, size, deeds):
        self.curve = curve
        self.level = level
        self.size = size
        self.deeds = list(deeds)


def scene_text(scene):
    """The text of a scene."""
    floor = " ".join(["floor", str(scene.level), str(scene.size)])
    return "\n".join(curve_rows(scene.curve) + [floor] + [deed_row(deed) for deed in scene.deeds])


def deed_row(deed):
    return " ".join([deed[0]] + [value_text(value) for value in deed[1:]])


def value_text(value):
    return place_text(value) if isinstance(value, tuple) else str(value)


def scene_of(text):
    """The scene that a text tells; refused with BadRow, CornerTwice, Unmet."""
    rows = text.split("\n")
    curve = curve_from(rows)
    floor = 2 + len(curve.parts)
    level, size = read_floor(words_at(rows, floor), curve.dims, floor)
    deeds = []
    for row in range(floor + 1, len(rows) + 1):
        if len(deeds) == MOST_DEEDS:
            raise BadRow(row)
        deeds.append(read_deed(words_at(rows, row), curve.dims, row))
    # The promise is asked behind all rows, as a bad row further down goes ahead of it.
    return Scene(fitted(curve), level, size, deeds)


def read_floor(words, dims, row):
    if len(words) != 3 or words[0] != "floor":
        raise BadRow(row)
    level = number_of(words[1], MOST_LEVEL[dims])
    size = number_from(words[2], LEAST_SIZE, MOST_SIZE)
    if level is None or size is None:
        raise BadRow(row)
    return (level, size)


def read_deed(words, dims, row):
    if words[0] not in FORMS or len(words) != 1 + len(FORMS[words[0]]):
        raise BadRow(row)
    values = [read_value(kind, word, dims) for kind, word in zip(FORMS[words[0]], words[1:])]
    if None in values:
        raise BadRow(row)
    return (words[0],) + tuple(values)


def read_value(kind, word, dims):
    """What a word of a deed's row writes, None where it is not of that kind."""
    if kind == "name":
        return word if is_word(word) else None
    if kind == "place":
        return place_of(word, dims)
    if kind == "many":
        return number_from(word, LEAST_MANY, MOST_MANY)
    return number_of(word)


def number_from(text, least, most):
    """The number from least to most that a text writes, or None."""
    number = number_of(text, most)
    return None if number is None or number < least else number
