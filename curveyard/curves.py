"""Curves and their parts, and how a curve lies in each part of a floor."""

from curveyard.turns import after, still, turned, undone


class Part:
    """A part of a curve: the corner it fills, and how the curve lies in it."""

    def __init__(self, corner, turn, back):
        self.corner = corner
        self.turn = turn
        self.back = back


class Curve:
    """A curve: its name, dims, promise and parts in order."""

    def __init__(self, name, dims, joined, parts):
        self.name = name
        self.dims = dims
        self.joined = joined
        self.parts = list(parts)


def first_state(dims):
    """The state of the whole floor."""
    return (still(dims), False)


def part_at(curve, state, digit):
    """The corner that the part walked digit-th fills, and the state in it."""
    turn, back = state
    part = curve.parts[walked(curve, back, digit)]
    inner = (after(turn, part.turn), back != part.back)
    return (turned(turn, part.corner), inner)


def digit_at(curve, state, corner):
    """The digit whose part fills a corner."""
    turn, back = state
    own = turned(undone(turn), corner)
    corners = [part.corner for part in curve.parts]
    return walked(curve, back, corners.index(own))


def walked(curve, back, number):
    # One count serves both ways: counting from the end undoes itself,
    # so it leads from a digit to a part's number and from that to the digit.
    return len(curve.parts) - 1 - number if back else number
