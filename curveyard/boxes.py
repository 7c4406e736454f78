"""Boxes of places."""

from curveyard.errors import BadBox, OffFloor
from curveyard.numbering import full, has_place


def box_of(low, high):
    """The box of the places from low to high; refused with BadBox."""
    if not not_beyond(low, high):
        raise BadBox("the low place is beyond the high one")
    return (low, high)


def not_beyond(low, high):
    return all([least <= most for least, most in zip(low, high)])


def on_floor(box, dims, level):
    """Whether all places of a box are on a floor."""
    low, high = box
    return has_place(dims, level, low) and has_place(dims, level, high)


def ask_box(box, dims, level):
    """Refuses a box that is not on a floor with OffFloor."""
    if not on_floor(box, dims, level):
        raise OffFloor("the box is not on the floor")


def holds(box, place):
    """Whether a place is in a box."""
    low, high = box
    return not_beyond(low, place) and not_beyond(place, high)


def meets(one, other):
    """Whether two boxes share a place."""
    return common(one, other) is not None


def within(one, other):
    """Whether all places of one are in other."""
    low, high = one
    return holds(other, low) and holds(other, high)


def volume(box):
    """How many places a box holds."""
    low, high = box
    places = 1
    for least, most in zip(low, high):
        places = places * (most - least + 1)
    return places


def common(one, other):
    """The box of the places that both boxes hold, or None."""
    low = tuple([max(pair) for pair in zip(one[0], other[0])])
    high = tuple([min(pair) for pair in zip(one[1], other[1])])
    return (low, high) if not_beyond(low, high) else None


def grown(box, by, level):
    """The box that reaches further to each side, as far as the floor goes."""
    low, high = box
    edge = full(1, level) - 1
    lower = tuple([max(0, least - by) for least in low])
    upper = tuple([min(edge, most + by) for most in high])
    return (lower, upper)


def gap(place, box):
    """The greatest distance along an axis from a place to a box."""
    low, high = box
    gaps = [max(0, least - along, along - most) for along, least, most in zip(place, low, high)]
    return max(gaps)
