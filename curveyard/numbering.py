"""The numbers that a curve gives to the places of a floor."""

from curveyard.curves import digit_at, first_state, part_at
from curveyard.errors import OffFloor


def full(dims, level):
    """How many places a floor has."""
    places = 1
    for halving in range(dims * level):
        places = places * 2
    return places


def has_place(dims, level, place):
    """Whether a floor has a place."""
    side = full(1, level)
    return len(place) == dims and all([0 <= along < side for along in place])


def ask_place(dims, level, place):
    """Refuses a place that a floor does not have with OffFloor."""
    if not has_place(dims, level, place):
        raise OffFloor("the place is not on the floor")


def place_at(curve, level, number):
    """The place with a number; refused with OffFloor."""
    if not 0 <= number < full(curve.dims, level):
        raise OffFloor("the floor has no such number")
    state = first_state(curve.dims)
    place = (0,) * curve.dims
    for digit in digits_of(number, len(curve.parts), level):
        corner, state = part_at(curve, state, digit)
        place = deeper(place, corner)
    return place


def digits_of(number, base, many):
    # The greatest digit comes first, and noughts ahead count too:
    # each of them leads into a part.
    digits = []
    for step in range(many):
        digits.append(number % base)
        number = number // base
    return digits[::-1]


def deeper(place, corner):
    """The place one level further down that fills a corner of a place."""
    return tuple([2 * along + bit for along, bit in zip(place, corner)])


def number_at(curve, level, place):
    """The number of a place; refused with OffFloor."""
    ask_place(curve.dims, level, place)
    state = first_state(curve.dims)
    number = 0
    half = full(1, level) // 2
    while half > 0:
        corner = tuple([along // half % 2 for along in place])
        digit = digit_at(curve, state, corner)
        number = number * len(curve.parts) + digit
        state = part_at(curve, state, digit)[1]
        half = half // 2
    return number


def next_to(one, other):
    """Whether two places differ by one along one axis and are alike along all others."""
    return sum([abs(along - across) for along, across in zip(one, other)]) == 1


def neighbours(curve, level, number):
    """The numbers of the places next to that of a number, sorted; refused with OffFloor."""
    around = places_around(place_at(curve, level, number))
    return sorted([number_at(curve, level, place) for place in around if has_place(curve.dims, level, place)])


def places_around(place):
    around = []
    for axis in range(len(place)):
        for step in (-1, 1):
            around.append(place[:axis] + (place[axis] + step,) + place[axis + 1:])
    return around
