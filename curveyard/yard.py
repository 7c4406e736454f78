"""A yard: a floor with things on it, kept by the stretches of their boxes."""

from curveyard.boxes import ask_box, gap, within
from curveyard.errors import NoThing, Twice
from curveyard.numbering import ask_place
from curveyard.store import Store
from curveyard.stretches import stretches_of


class Yard:
    """A floor of a curve and a level, the boxes of its things by name, and the store of their stretches."""

    def __init__(self, curve, level, size):
        self.curve = curve
        self.level = level
        self.store = Store(size)
        self.boxes = {}

    def put(self, name, box):
        """Puts a thing on the floor; refused with Twice, OffFloor."""
        if name in self.boxes:
            raise Twice(f"a thing {name} is there")
        self.ask_floor(box)
        self.lay(name, box)

    def move(self, name, box):
        """Gives a thing another box; refused with NoThing, OffFloor."""
        self.ask_name(name)
        self.ask_floor(box)
        self.take(name)
        self.lay(name, box)

    def take(self, name):
        """Takes a thing away; refused with NoThing."""
        for first, last in self.spans(self.where(name)):
            self.store.take((first, last, name))
        self.boxes.pop(name)

    def where(self, name):
        """The box of a thing; refused with NoThing."""
        self.ask_name(name)
        return self.boxes[name]

    def names(self):
        """The names of all things, sorted."""
        return sorted(self.boxes)

    def inside(self, box):
        """The names of the things all of whose places are in a box, sorted; refused with OffFloor."""
        return [name for name in self.meeting(box) if within(self.boxes[name], box)]

    def meeting(self, box):
        """The names of the things that share a place with a box, sorted; refused with OffFloor."""
        self.ask_floor(box)
        met = {}
        for first, last in self.spans(box):
            for entry in self.store.crossing(first, last):
                met[entry[2]] = True
        return sorted(met)

    def nearest(self, place, many):
        """The gap and the name of the many things nearest to a place; refused with OffFloor."""
        ask_place(self.curve.dims, self.level, place)
        return sorted([(gap(place, box), name) for name, box in self.boxes.items()])[:many]

    def sharing(self):
        """The pairs of names of things that share a place, sorted."""
        pairs = {}
        for first, last, one in self.store.listed():
            for entry in self.store.crossing(first, last):
                if one < entry[2]:
                    pairs[(one, entry[2])] = True
        return sorted(pairs)

    def ask_floor(self, box):
        """Refuses a box that is not on the floor with OffFloor."""
        ask_box(box, self.curve.dims, self.level)

    def ask_name(self, name):
        if name not in self.boxes:
            raise NoThing(f"no thing {name}")

    def lay(self, name, box):
        for first, last in self.spans(box):
            self.store.put((first, last, name))
        self.boxes[name] = box

    def spans(self, box):
        """The stretches of a box on the floor."""
        # No deed is told to be refused for a wide box, so none is,
        # even where a floor is greater than those that are asked for.
        return stretches_of(self.curve, self.level, box)
