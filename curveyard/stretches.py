"""Stretches of numbers, and those that a box takes."""

from curveyard.boxes import ask_box, common, volume
from curveyard.curves import first_state, part_at
from curveyard.errors import TooWide
from curveyard.numbering import full

MOST_PLACES = 4096


def stretches(curve, level, box):
    """The stretches of a box; refused with OffFloor, TooWide."""
    ask_box(box, curve.dims, level)
    if volume(box) > MOST_PLACES:
        raise TooWide(f"the box holds more than {MOST_PLACES} places")
    return stretches_of(curve, level, box)


def stretches_of(curve, level, box):
    """The stretches of a box on the floor, however many places it holds."""
    edge = full(1, level) - 1
    floor = ((0,) * curve.dims, (edge,) * curve.dims)
    return closed(pieces(curve, box, first_state(curve.dims), floor, 0), 0)


def pieces(curve, box, state, region, first):
    """The stretches of a box in the parts of a region, one for each part that it fills.

    The region is a part of the floor, told as a box; there the curve lies in
    that state, and the numbers begin with first.
    """
    shared = common(box, region)
    if shared is None:
        return []
    if shared == region:
        return [(first, first + volume(region) - 1)]
    step = volume(region) // len(curve.parts)
    told = []
    for digit in range(len(curve.parts)):
        corner, inner = part_at(curve, state, digit)
        told.extend(pieces(curve, shared, inner, quarter(region, corner), first + digit * step))
    return told


def quarter(region, corner):
    """The part of a region that fills a corner of it."""
    low, high = region
    half = (high[0] - low[0] + 1) // 2
    near = tuple([along + half * bit for along, bit in zip(low, corner)])
    far = tuple([along + half - 1 for along in near])
    return (near, far)


def closed(spans, gap):
    """A list of stretches, those joined between which no more than gap numbers lie."""
    starts = [at for at in range(1, len(spans)) if space_ahead(spans, at) > gap]
    return joined_from(spans, starts)


def cover(spans, many):
    """At most many stretches that hold all numbers of a list of stretches, and the fewest others."""
    # Sorting leaves equally wide spaces in their order, so the earlier ones stay.
    widest = sorted(range(1, len(spans)), key=lambda at: -space_ahead(spans, at))
    return joined_from(spans, sorted(widest[:many - 1]))


def space_ahead(spans, at):
    """How many numbers lie between a stretch and the one ahead of it."""
    return spans[at][0] - spans[at - 1][1] - 1


def joined_from(spans, starts):
    """A list of stretches, all joined but those at the starts with the ones ahead of them."""
    if not spans:
        return []
    ends = starts + [len(spans)]
    return [(spans[start][0], spans[end - 1][1]) for start, end in zip([0] + starts, ends)]
