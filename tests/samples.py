"""What several tests need: all corners and turns, some curves, how they lie, and checks of kinds."""

import itertools

from curveyard.curves import Curve, Part
from curveyard.turns import corner_of, turn_of


def all_corners(dims):
    return list(itertools.product((0, 1), repeat=dims))


def all_turns(dims):
    turns = []
    for axes in itertools.permutations(range(dims)):
        for flips in itertools.product((0, 1), repeat=dims):
            turns.append(tuple(zip(axes, flips)))
    return turns


def all_states(dims):
    return [(turn, back) for turn in all_turns(dims) for back in (False, True)]


def hilbert():
    return Curve("hilbert", 2, True, [
        Part((0, 0), ((1, 0), (0, 0)), False),
        Part((0, 1), ((0, 0), (1, 0)), False),
        Part((1, 1), ((0, 0), (1, 0)), False),
        Part((1, 0), ((1, 1), (0, 1)), False),
    ])


def square():
    """A curve of two axes with turns and backs in its parts, and no next-to-next order."""
    return Curve("square", 2, False, [
        Part((1, 0), ((1, 1), (0, 0)), True),
        Part((0, 0), ((0, 1), (1, 0)), False),
        Part((1, 1), ((1, 0), (0, 1)), True),
        Part((0, 1), ((0, 0), (1, 0)), True),
    ])


def cube():
    """The same for three axes; some of its turns are not undone by themselves."""
    return Curve("cube", 3, False, [
        Part((0, 1, 0), ((1, 0), (2, 1), (0, 0)), False),
        Part((1, 1, 0), ((2, 1), (0, 0), (1, 1)), True),
        Part((0, 0, 0), ((0, 0), (1, 0), (2, 0)), True),
        Part((1, 0, 1), ((0, 1), (2, 0), (1, 0)), False),
        Part((1, 1, 1), ((2, 0), (1, 1), (0, 1)), False),
        Part((0, 1, 1), ((1, 1), (0, 1), (2, 1)), True),
        Part((0, 0, 1), ((1, 0), (2, 0), (0, 1)), True),
        Part((1, 0, 0), ((2, 1), (0, 1), (1, 0)), False),
    ])


def all_curves():
    return [hilbert(), square(), cube()]


def folded(name, promise, *parts):
    """A curve of parts such as "01 +y-x back"."""
    dims = len(parts[0].split()[0])
    made = []
    for part in parts:
        words = part.split()
        made.append(Part(corner_of(words[0], dims), turn_of(words[1], dims), words[2:] == ["back"]))
    return Curve(name, dims, promise == "joined", made)


def there_and_back():
    """A curve of two axes whose parts all meet, two of them walked back."""
    return folded("thereback", "joined", "00 +y-x back", "01 +x+y", "11 -x+y back", "10 -y-x")


def winding():
    """A curve of three axes whose parts all meet, some of them walked back."""
    return folded(
        "winding", "joined", "000 -z+y+x back", "100 +y+z+x", "110 +y-z+x back", "010 -y-x+z",
        "011 -x-y+z", "111 +y-z-x", "101 +y-z-x", "001 -z+y-x",
    )


def meeting_curves():
    return [hilbert(), there_and_back(), winding()]


# Curves with, for each two next parts, the least level at which they are unmet.
UNMET = (
    (square(), [2, 1, 2]),
    (cube(), [2, 1, 1, 2, 2, 2, 1]),
    (folded("rows", "loose", "00 +x+y", "01 +x+y", "10 +x+y", "11 +x+y"), [2, 1, 2]),
    (folded("ring", "joined", "00 +x+y", "01 +x+y", "11 +x+y", "10 +x+y"), [2, None, 2]),
    (folded("late", "joined", "00 +x-y", "01 -y+x", "11 +y+x back", "10 +y+x back"), [None, None, 3]),
    (folded("later", "joined", "00 -y+x", "01 -y-x back", "11 +y-x", "10 +x-y"), [None, 4, 4]),
    (folded("first", "joined", "00 +x-y", "01 -y+x", "11 +y+x back", "10 +y-x"), [4, 4, None]),
    (folded(
        "many", "joined", "000 -y+x-z back", "001 -z+x+y", "101 +z+x+y back", "100 +z+y-x",
        "110 +z-y-x back", "111 +z-y+x", "011 -z-y+x back", "010 +z-y+x back",
    ), [3, 8, 5, 6, 7, 8, 2]),
    (folded(
        "levels", "joined", "000 -x-z+y", "100 +x-z+y back", "110 +x+z+y", "010 -x-y-z back",
        "011 -x-y+z", "111 +x+z-y back", "101 +x-z-y", "001 +z+x-y back",
    ), [5, 4, 5, 4, 5, 4, 4]),
    (folded(
        "third", "loose", "000 -x-z-y", "010 -x+z-y back", "011 -z+y-x back", "001 -z-y-x",
        "101 -x-y+z back", "111 -y+x+z", "110 -y+x-z back", "100 -z-y-x",
    ), [None, 3, 3, None, 3, None, 3]),
)


def lain_at(curve, level, number):
    """The place with a number, straight from point 8: a smaller floor is turned
    and walked back whole, without states and without digits."""
    if level == 0:
        return (0,) * curve.dims
    inner = len(curve.parts) ** (level - 1)
    part, rest = curve.parts[number // inner], number % inner
    place = lain_at(curve, level - 1, inner - 1 - rest if part.back else rest)
    half = 2 ** (level - 1)
    found = []
    for bit, (axis, flip) in zip(part.corner, part.turn):
        found.append(bit * half + (half - 1 - place[axis] if flip else place[axis]))
    return tuple(found)


def lain(curve, level):
    """The places of a floor in the curve's order."""
    return [lain_at(curve, level, number) for number in range(len(curve.parts) ** level)]


def one_step(one, other):
    """Whether two places are next to one another: one of them is the other, moved by one along an axis."""
    for axis in range(len(one)):
        for step in (-1, 1):
            if one[:axis] + (one[axis] + step,) + one[axis + 1:] == other:
                return True
    return False


def told(curve):
    """All that a curve holds, as plain values."""
    parts = [(part.corner, part.turn, part.back) for part in curve.parts]
    return (curve.name, curve.dims, curve.joined, parts)


def check_corner(case, corner, dims):
    """A tuple of whole numbers 0 and 1: True and False, though equal, are none."""
    case.assertIs(type(corner), tuple)
    case.assertEqual(len(corner), dims)
    for bit in corner:
        case.assertIs(type(bit), int)
        case.assertIn(bit, (0, 1))


def check_turn(case, turn, dims):
    case.assertIs(type(turn), tuple)
    for pair in turn:
        case.assertIs(type(pair), tuple)
        case.assertEqual([type(value) for value in pair], [int, int])
        case.assertIn(pair[1], (0, 1))
    case.assertEqual(sorted(pair[0] for pair in turn), list(range(dims)))


def check_state(case, state, dims):
    case.assertIs(type(state), tuple)
    case.assertEqual(len(state), 2)
    check_turn(case, state[0], dims)
    case.assertIs(type(state[1]), bool)
