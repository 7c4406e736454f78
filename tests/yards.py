"""What the tests of yards need: curves of both counts of axes, plain models of a yard and its deeds, and scattered
boxes."""

import itertools

from curveyard.errors import NoThing, OffFloor, Twice
from curveyard.yard import Yard
from tests.samples import (
    box_along, cube, floor_of, folded, hilbert, lain, places_of, scattered, square, there_and_back, winding,
)

ROWS = folded("rows", "loose", "00 +x+y", "01 +x+y", "10 +x+y", "11 +x+y")
LAYERS = folded(
    "layers", "loose", "000 +x+y+z", "001 +x+y+z", "010 +x+y+z", "011 +x+y+z",
    "100 +x+y+z", "101 +x+y+z", "110 +x+y+z", "111 +x+y+z",
)
FLAT = (hilbert(), there_and_back(), square(), ROWS)
DEEP = (winding(), cube(), LAYERS)
CURVES = FLAT + DEEP
NAMES = ("a", "aa", "ab", "b", "ba", "zzzzzzzzzzzz", "y", "c", "yard", "yar", "x", "k", "m")


class Plain:
    """What a yard tells, found by looking at all places of all things."""

    def __init__(self, dims, level):
        self.floor = places_of(floor_of(dims, level))
        self.boxes = {}

    def on_floor(self, box):
        return {box[0], box[1]} <= self.floor

    def put(self, name, box):
        if name in self.boxes:
            return Twice
        if not self.on_floor(box):
            return OffFloor
        self.boxes[name] = box

    def move(self, name, box):
        if name not in self.boxes:
            return NoThing
        if not self.on_floor(box):
            return OffFloor
        self.boxes[name] = box

    def take(self, name):
        if name not in self.boxes:
            return NoThing
        self.boxes.pop(name)

    def where(self, name):
        return self.boxes.get(name, NoThing)

    def names(self):
        return sorted(self.boxes)

    def inside(self, box):
        if not self.on_floor(box):
            return OffFloor
        return sorted(name for name, other in self.boxes.items() if places_of(other) <= places_of(box))

    def meeting(self, box):
        if not self.on_floor(box):
            return OffFloor
        return sorted(name for name, other in self.boxes.items() if places_of(other) & places_of(box))

    def nearest(self, place, many):
        if place not in self.floor:
            return OffFloor
        gaps = []
        for name, box in self.boxes.items():
            apart = [max(abs(along - across) for along, across in zip(place, other)) for other in places_of(box)]
            gaps.append((min(apart), name))
        return sorted(gaps)[:many]

    def sharing(self):
        pairs = itertools.combinations(sorted(self.boxes), 2)
        return [pair for pair in pairs if places_of(self.boxes[pair[0]]) & places_of(self.boxes[pair[1]])]


REFUSALS = {Twice: "twice", NoThing: "thing", OffFloor: "floor"}
ANSWERS = {"inside": "names", "meeting": "names", "sharing": "pairs", "cover": "spans"}
FIRST_PLACE = {"put": 2, "move": 2, "inside": 1, "meeting": 1, "spans": 1, "cover": 1}


class PlainDeeds:
    """What deeds are answered with, found in a plain yard and in the list of all places in the curve's order."""

    def __init__(self, curve, level):
        self.plain = Plain(curve.dims, level)
        self.places = lain(curve, level)
        self.numbers = {place: number for number, place in enumerate(self.places)}

    def done(self, deed):
        if deed[0] in FIRST_PLACE:
            at = FIRST_PLACE[deed[0]]
            low, high = deed[at:at + 2]
            if any(least > most for least, most in zip(low, high)):
                return ("refused", "box")
            deed = deed[:at] + ((low, high),) + deed[at + 2:]
        word, *values = deed
        found = getattr(self if hasattr(self, word) else self.plain, word)(*values)
        if isinstance(found, type):
            return ("refused", REFUSALS[found])
        if word in ("put", "move", "take"):
            return ("ok",)
        return ("box",) + found if word == "where" else (ANSWERS.get(word, word), found)

    def near(self, place, many):
        return self.plain.nearest(place, many)

    def number(self, place):
        return self.numbers.get(place, OffFloor)

    def place(self, number):
        return self.places[number] if 0 <= number < len(self.places) else OffFloor

    def spans(self, box):
        if not self.plain.on_floor(box):
            return OffFloor
        found = []
        for number in sorted(self.numbers[place] for place in places_of(box)):
            if found and found[-1][1] == number - 1:
                found[-1] = (found[-1][0], number)
            else:
                found.append((number, number))
        return found

    def cover(self, box, many):
        """Here the narrowest spaces are closed one by one, of equally narrow ones the later."""
        found = self.spans(box)
        if found == OffFloor:
            return OffFloor
        while len(found) > many:
            spaces = [(found[at][0] - found[at - 1][1], -at) for at in range(1, len(found))]
            at = -min(spaces)[1]
            found[at - 1:at + 1] = [(found[at - 1][0], found[at][1])]
        return found


def some_boxes(dims, level, count, salt, reach):
    """Scattered boxes; some reach beyond the floor."""
    side = 2 ** level
    chosen = iter(scattered(count * dims * 2, 2 ** 20, salt))
    found = []
    for step in range(count):
        lines = []
        for axis in range(dims):
            least = next(chosen) % side
            most = least + next(chosen) % reach
            lines.append((least, most if step % 2 else min(most, side - 1)))
        found.append(box_along(lines))
    return found


def deeds_of_all_kinds(dims, level, count, salt, reach):
    """Scattered deeds of all kinds; some are refused."""
    boxes = some_boxes(dims, level, count, salt, reach)
    kinds = scattered(count, 16, salt + 1)
    names = [NAMES[at] for at in scattered(count, len(NAMES), salt + 2)]
    manies = [1 + many for many in scattered(count, 15, salt + 3)]
    numbers = scattered(count, 2 ** (dims * level) * 5 // 4 + 1, salt + 4)
    turned_round = scattered(count, 9, salt + 5)
    deeds = []
    for kind, name, box, many, number, chance in zip(kinds, names, boxes, manies, numbers, turned_round):
        low, high = box if chance else box[::-1]
        deeds.append((
            ("put", name, low, high), ("put", name, low, high), ("put", name, low, high), ("move", name, low, high),
            ("move", name, low, high), ("take", name), ("where", name), ("names",), ("inside", low, high),
            ("meeting", low, high), ("near", high, many), ("sharing",), ("number", high), ("place", number),
            ("spans", low, high), ("cover", low, high, many),
        )[kind])
    return deeds


def laid(curve, level, size, boxes):
    yard = Yard(curve, level, size)
    for name, box in boxes.items():
        yard.put(name, box)
    return yard
