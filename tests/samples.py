"""What several tests need: all corners and turns, some curves and how they lie, boxes, scattered numbers, and
checks of kinds and of pages."""

import itertools

from curveyard.curves import Curve, Part
from curveyard.turns import corner_of, turn_of


def all_corners(dims):
    return list(itertools.product((0, 1), repeat=dims))


def all_turns(dims):
    turns = []
    for axes in itertools.permutations(range(dims)):
        for flips in itertools.product((0, 1), repeat=dims):
            turns.append(tuple(zip(axes, flips)))
    return turns


def all_states(dims):
    return [(turn, back) for turn in all_turns(dims) for back in (False, True)]


def hilbert():
    return Curve("hilbert", 2, True, [
        Part((0, 0), ((1, 0), (0, 0)), False),
        Part((0, 1), ((0, 0), (1, 0)), False),
        Part((1, 1), ((0, 0), (1, 0)), False),
        Part((1, 0), ((1, 1), (0, 1)), False),
    ])


def square():
    """A curve of two axes with turns and backs in its parts, and no next-to-next order."""
    return Curve("square", 2, False, [
        Part((1, 0), ((1, 1), (0, 0)), True),
        Part((0, 0), ((0, 1), (1, 0)), False),
        Part((1, 1), ((1, 0), (0, 1)), True),
        Part((0, 1), ((0, 0), (1, 0)), True),
    ])


def cube():
    """The same for three axes; some of its turns are not undone by themselves."""
    return Curve("cube", 3, False, [
        Part((0, 1, 0), ((1, 0), (2, 1), (0, 0)), False),
        Part((1, 1, 0), ((2, 1), (0, 0), (1, 1)), True),
        Part((0, 0, 0), ((0, 0), (1, 0), (2, 0)), True),
        Part((1, 0, 1), ((0, 1), (2, 0), (1, 0)), False),
        Part((1, 1, 1), ((2, 0), (1, 1), (0, 1)), False),
        Part((0, 1, 1), ((1, 1), (0, 1), (2, 1)), True),
        Part((0, 0, 1), ((1, 0), (2, 0), (0, 1)), True),
        Part((1, 0, 0), ((2, 1), (0, 1), (1, 0)), False),
    ])


def all_curves():
    return [hilbert(), square(), cube()]


def folded(name, promise, *parts):
    """A curve of parts such as "01 +y-x back"."""
    dims = len(parts[0].split()[0])
    made = []
    for part in parts:
        words = part.split()
        made.append(Part(corner_of(words[0], dims), turn_of(words[1], dims), words[2:] == ["back"]))
    return Curve(name, dims, promise == "joined", made)


def there_and_back():
    """A curve of two axes whose parts all meet, two of them walked back."""
    return folded("thereback", "joined", "00 +y-x back", "01 +x+y", "11 -x+y back", "10 -y-x")


def winding():
    """A curve of three axes whose parts all meet, some of them walked back."""
    return folded(
        "winding", "joined", "000 -z+y+x back", "100 +y+z+x", "110 +y-z+x back", "010 -y-x+z",
        "011 -x-y+z", "111 +y-z-x", "101 +y-z-x", "001 -z+y-x",
    )


def meeting_curves():
    return [hilbert(), there_and_back(), winding()]


# Curves with, for each two next parts, the least level at which they are unmet.
UNMET = (
    (square(), [2, 1, 2]),
    (cube(), [2, 1, 1, 2, 2, 2, 1]),
    (folded("rows", "loose", "00 +x+y", "01 +x+y", "10 +x+y", "11 +x+y"), [2, 1, 2]),
    (folded("ring", "joined", "00 +x+y", "01 +x+y", "11 +x+y", "10 +x+y"), [2, None, 2]),
    (folded("late", "joined", "00 +x-y", "01 -y+x", "11 +y+x back", "10 +y+x back"), [None, None, 3]),
    (folded("later", "joined", "00 -y+x", "01 -y-x back", "11 +y-x", "10 +x-y"), [None, 4, 4]),
    (folded("first", "joined", "00 +x-y", "01 -y+x", "11 +y+x back", "10 +y-x"), [4, 4, None]),
    (folded(
        "many", "joined", "000 -y+x-z back", "001 -z+x+y", "101 +z+x+y back", "100 +z+y-x",
        "110 +z-y-x back", "111 +z-y+x", "011 -z-y+x back", "010 +z-y+x back",
    ), [3, 8, 5, 6, 7, 8, 2]),
    (folded(
        "levels", "joined", "000 -x-z+y", "100 +x-z+y back", "110 +x+z+y", "010 -x-y-z back",
        "011 -x-y+z", "111 +x+z-y back", "101 +x-z-y", "001 +z+x-y back",
    ), [5, 4, 5, 4, 5, 4, 4]),
    (folded(
        "third", "loose", "000 -x-z-y", "010 -x+z-y back", "011 -z+y-x back", "001 -z-y-x",
        "101 -x-y+z back", "111 -y+x+z", "110 -y+x-z back", "100 -z-y-x",
    ), [None, 3, 3, None, 3, None, 3]),
)

# The two parts and the level with which each of these is refused where it says joined.
REFUSED_WITH = {
    "square": (1, 2, 1), "cube": (1, 2, 1), "rows": (1, 2, 1), "ring": (0, 1, 2), "late": (2, 3, 3),
    "later": (1, 2, 4), "first": (0, 1, 4), "many": (6, 7, 2), "levels": (1, 2, 4), "third": (1, 2, 3),
}


def lain_at(curve, level, number):
    """The place with a number, straight from point 8: a smaller floor is turned
    and walked back whole, without states and without digits."""
    if level == 0:
        return (0,) * curve.dims
    inner = len(curve.parts) ** (level - 1)
    part, rest = curve.parts[number // inner], number % inner
    place = lain_at(curve, level - 1, inner - 1 - rest if part.back else rest)
    half = 2 ** (level - 1)
    found = []
    for bit, (axis, flip) in zip(part.corner, part.turn):
        found.append(bit * half + (half - 1 - place[axis] if flip else place[axis]))
    return tuple(found)


def lain(curve, level):
    """The places of a floor in the curve's order."""
    return [lain_at(curve, level, number) for number in range(len(curve.parts) ** level)]


def one_step(one, other):
    """Whether two places are next to one another: one of them is the other, moved by one along an axis."""
    for axis in range(len(one)):
        for step in (-1, 1):
            if one[:axis] + (one[axis] + step,) + one[axis + 1:] == other:
                return True
    return False


def told(curve):
    """All that a curve holds, as plain values."""
    parts = [(part.corner, part.turn, part.back) for part in curve.parts]
    return (curve.name, curve.dims, curve.joined, parts)


def box_along(lines):
    """The box with these pairs of least and greatest coordinate along its axes."""
    low, high = zip(*lines)
    return (low, high)


def places_of(box):
    return set(itertools.product(*[range(least, most + 1) for least, most in zip(*box)]))


def boxes_on(dims, level):
    """All boxes of a floor."""
    lines = list(itertools.combinations_with_replacement(range(2 ** level), 2))
    return [box_along(found) for found in itertools.product(lines, repeat=dims)]


def floor_of(dims, level):
    """The box of all places of a floor."""
    return ((0,) * dims, (2 ** level - 1,) * dims)


def boxes_beyond(dims, level):
    """Boxes that reach beyond a floor or lie beyond it, on each axis and side, and boxes of another count of axes."""
    low, high = floor_of(dims, level)
    found = []
    for axis in range(dims):
        below = low[:axis] + (-1,) + low[axis + 1:]
        above = high[:axis] + (2 ** level,) + high[axis + 1:]
        found += [(below, low), (below, high), (below, below), (low, above), (high, above), (above, above)]
    for count in (1, dims - 1, dims + 1):
        found += [((0,) * count, (0,) * count), ((0,) * count, (2 ** level - 1,) * count)]
    return found


def scattered(count, below, salt=1):
    """So many numbers from 0 to less than below, in no order that is easily seen, the same ones for the same salt."""
    found = []
    # Spread out, as small salts one after another would begin almost alike.
    state = salt * 11400714819323198485 % 2 ** 64
    for step in range(count):
        state = (state * 6364136223846793005 + 1442695040888963407) % 2 ** 64
        found.append((state >> 33) % below)
    return found


def shuffled(values, salt=1):
    """The same values in another order."""
    ranks = scattered(len(values), 2 ** 30, salt)
    return [value for rank, value in sorted(zip(ranks, values))]


def entry_order(entry):
    return (entry[0], entry[2])


def check_pages(case, shape, size):
    """All bounds of point 34 that a shape shows; answers the entries of its leaves in order."""
    entries = check_page(case, shape, size, True)[1]
    case.assertEqual(entries, sorted(entries, key=entry_order))
    case.assertEqual(len(set(map(entry_order, entries))), len(entries))
    return entries


def check_page(case, shape, size, root):
    """The depth of a page and its entries."""
    case.assertIs(type(shape), tuple)
    kind, things = shape
    case.assertIs(type(things), list)
    case.assertLessEqual(len(things), size)
    if not root:
        case.assertGreaterEqual(len(things), size // 2)
    if kind == "leaf":
        return (1, list(things))
    case.assertEqual(kind, "branch")
    if root:
        case.assertGreaterEqual(len(things), 2)
    depths, entries = [], []
    for told_of in things:
        case.assertIs(type(told_of), tuple)
        least, most, inner = told_of
        depth, found = check_page(case, inner, size, False)
        case.assertEqual(least, min(found, key=entry_order))
        case.assertEqual(most, max(entry[1] for entry in found))
        depths.append(depth)
        entries += found
    case.assertEqual(len(set(depths)), 1)
    return (depths[0] + 1, entries)


def check_corner(case, corner, dims):
    """A tuple of whole numbers 0 and 1: True and False, though equal, are none."""
    case.assertIs(type(corner), tuple)
    case.assertEqual(len(corner), dims)
    for bit in corner:
        case.assertIs(type(bit), int)
        case.assertIn(bit, (0, 1))


def check_turn(case, turn, dims):
    case.assertIs(type(turn), tuple)
    for pair in turn:
        case.assertIs(type(pair), tuple)
        case.assertEqual([type(value) for value in pair], [int, int])
        case.assertIn(pair[1], (0, 1))
    case.assertEqual(sorted(pair[0] for pair in turn), list(range(dims)))


def check_state(case, state, dims):
    case.assertIs(type(state), tuple)
    case.assertEqual(len(state), 2)
    check_turn(case, state[0], dims)
    case.assertIs(type(state[1]), bool)
