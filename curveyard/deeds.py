"""Deeds done in a yard, and the answers to them."""

from curveyard.boxes import box_of
from curveyard.errors import BadBox, NoThing, OffFloor, Twice
from curveyard.numbering import number_at, place_at
from curveyard.stretches import cover


def put_thing(yard, values):
    name, low, high = values
    yard.put(name, box_of(low, high))
    return ("ok",)


def move_thing(yard, values):
    name, low, high = values
    yard.move(name, box_of(low, high))
    return ("ok",)


def take_thing(yard, values):
    yard.take(values[0])
    return ("ok",)


def tell_names(yard, values):
    return ("names", yard.names())


def tell_where(yard, values):
    low, high = yard.where(values[0])
    return ("box", low, high)


def tell_inside(yard, values):
    low, high = values
    return ("names", yard.inside(box_of(low, high)))


def tell_meeting(yard, values):
    low, high = values
    return ("names", yard.meeting(box_of(low, high)))


def tell_near(yard, values):
    place, many = values
    return ("near", yard.nearest(place, many))


def tell_sharing(yard, values):
    return ("pairs", yard.sharing())


def tell_number(yard, values):
    return ("number", number_at(yard.curve, yard.level, values[0]))


def tell_place(yard, values):
    return ("place", place_at(yard.curve, yard.level, values[0]))


def tell_spans(yard, values):
    low, high = values
    return ("spans", spans_between(yard, low, high))


def tell_cover(yard, values):
    low, high, many = values
    return ("spans", cover(spans_between(yard, low, high), many))


def spans_between(yard, low, high):
    box = box_of(low, high)
    yard.ask_floor(box)
    return yard.spans(box)


DOINGS = {
    "put": put_thing,
    "move": move_thing,
    "take": take_thing,
    "names": tell_names,
    "where": tell_where,
    "inside": tell_inside,
    "meeting": tell_meeting,
    "near": tell_near,
    "sharing": tell_sharing,
    "number": tell_number,
    "place": tell_place,
    "spans": tell_spans,
    "cover": tell_cover,
}


def done(yard, deed):
    """Does a deed in a yard and tells its answer; a refusal is told as an answer, too."""
    doing = DOINGS[deed[0]]
    try:
        return doing(yard, deed[1:])
    except BadBox:
        return ("refused", "box")
    except Twice:
        return ("refused", "twice")
    except NoThing:
        return ("refused", "thing")
    except OffFloor:
        return ("refused", "floor")
