"""Whether the next parts of a curve meet."""

from curveyard.curves import first_state, part_at
from curveyard.numbering import deeper, next_to


def unmet_at(curve, first):
    """The least level at which a part's end and the next part's beginning are not next to one another, or None."""
    whole = first_state(curve.dims)
    end, ending = part_at(curve, whole, first)
    start, starting = part_at(curve, whole, first + 1)
    level = 1
    seen = {}
    while next_to(end, start):
        # As long as the two places are next to one another they are so along
        # one axis and to one side, so the states alone tell how it goes on.
        if (ending, starting) in seen:
            return None
        seen[(ending, starting)] = True
        corner, ending = part_at(curve, ending, len(curve.parts) - 1)
        end = deeper(end, corner)
        corner, starting = part_at(curve, starting, 0)
        start = deeper(start, corner)
        level = level + 1
    return level


def meeting_of(curve):
    """The first part of the first two that are unmet, and their level, which is the least; or None."""
    levels = [unmet_at(curve, first) for first in range(len(curve.parts) - 1)]
    least = min([level for level in levels if level is not None], default=None)
    if least is None:
        return None
    return (levels.index(least), least)
