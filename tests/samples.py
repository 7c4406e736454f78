"""What several tests need: all corners and turns, some curves, and a check of kinds."""

import itertools

from curveyard.curves import Curve, Part


def all_corners(dims):
    return list(itertools.product((0, 1), repeat=dims))


def all_turns(dims):
    turns = []
    for axes in itertools.permutations(range(dims)):
        for flips in itertools.product((0, 1), repeat=dims):
            turns.append(tuple(zip(axes, flips)))
    return turns


def all_states(dims):
    return [(turn, back) for turn in all_turns(dims) for back in (False, True)]


def hilbert():
    return Curve("hilbert", 2, True, [
        Part((0, 0), ((1, 0), (0, 0)), False),
        Part((0, 1), ((0, 0), (1, 0)), False),
        Part((1, 1), ((0, 0), (1, 0)), False),
        Part((1, 0), ((1, 1), (0, 1)), False),
    ])


def square():
    """A curve of two axes with turns and backs in its parts, and no next-to-next order."""
    return Curve("square", 2, False, [
        Part((1, 0), ((1, 1), (0, 0)), True),
        Part((0, 0), ((0, 1), (1, 0)), False),
        Part((1, 1), ((1, 0), (0, 1)), True),
        Part((0, 1), ((0, 0), (1, 0)), True),
    ])


def cube():
    """The same for three axes; some of its turns are not undone by themselves."""
    return Curve("cube", 3, False, [
        Part((0, 1, 0), ((1, 0), (2, 1), (0, 0)), False),
        Part((1, 1, 0), ((2, 1), (0, 0), (1, 1)), True),
        Part((0, 0, 0), ((0, 0), (1, 0), (2, 0)), True),
        Part((1, 0, 1), ((0, 1), (2, 0), (1, 0)), False),
        Part((1, 1, 1), ((2, 0), (1, 1), (0, 1)), False),
        Part((0, 1, 1), ((1, 1), (0, 1), (2, 1)), True),
        Part((0, 0, 1), ((1, 0), (2, 0), (0, 1)), True),
        Part((1, 0, 0), ((2, 1), (0, 1), (1, 0)), False),
    ])


def all_curves():
    return [hilbert(), square(), cube()]


def told(curve):
    """All that a curve holds, as plain values."""
    parts = [(part.corner, part.turn, part.back) for part in curve.parts]
    return (curve.name, curve.dims, curve.joined, parts)


def check_corner(case, corner, dims):
    """A tuple of whole numbers 0 and 1: True and False, though equal, are none."""
    case.assertIs(type(corner), tuple)
    case.assertEqual(len(corner), dims)
    for bit in corner:
        case.assertIs(type(bit), int)
        case.assertIn(bit, (0, 1))


def check_turn(case, turn, dims):
    case.assertIs(type(turn), tuple)
    for pair in turn:
        case.assertIs(type(pair), tuple)
        case.assertEqual([type(value) for value in pair], [int, int])
        case.assertIn(pair[1], (0, 1))
    case.assertEqual(sorted(pair[0] for pair in turn), list(range(dims)))


def check_state(case, state, dims):
    case.assertIs(type(state), tuple)
    case.assertEqual(len(state), 2)
    check_turn(case, state[0], dims)
    case.assertIs(type(state[1]), bool)
