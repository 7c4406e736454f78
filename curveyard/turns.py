"""Corners and turns of a floor, and how they are written."""

BITS = "01"
FLIPS = "+-"
AXES = "xyz"


def turned(turn, corner):
    """The corner to which a turn leads a corner."""
    return tuple([corner[axis] ^ flip for axis, flip in turn])


def still(dims):
    """The turn that leaves every corner as it is."""
    return tuple([(axis, 0) for axis in range(dims)])


def after(one, other):
    """The turn that does the turn other and then the turn one."""
    return tuple([(other[axis][0], other[axis][1] ^ flip) for axis, flip in one])


def undone(turn):
    """The turn that leads every corner back."""
    pairs = list(turn)
    for bit in range(len(turn)):
        axis, flip = turn[bit]
        pairs[axis] = (bit, flip)
    return tuple(pairs)


def turn_text(turn):
    """The text of a turn, such as +y-x."""
    return "".join([FLIPS[flip] + AXES[axis] for axis, flip in turn])


def turn_of(text, dims):
    """The turn that a text writes, or None."""
    if len(text) != 2 * dims:
        return None
    flips = [FLIPS.find(sign) for sign in text[0::2]]
    axes = [AXES.find(letter) for letter in text[1::2]]
    if -1 in flips or sorted(axes) != list(range(dims)):
        return None
    return tuple(zip(axes, flips))


def corner_text(corner):
    """The text of a corner, such as 01."""
    return "".join([BITS[bit] for bit in corner])


def corner_of(text, dims):
    """The corner that a text writes, or None."""
    bits = [BITS.find(sign) for sign in text]
    if len(bits) != dims or -1 in bits:
        return None
    return tuple(bits)
