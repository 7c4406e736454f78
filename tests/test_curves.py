"""Points 1, 8 and 9: curves and parts, and how a curve lies in each part of a floor."""

import unittest

from curveyard.curves import Curve, Part, digit_at, first_state, part_at
from curveyard.turns import turned
from tests.samples import (
    all_corners, all_curves, all_states, check_corner, check_state, cube, hilbert, lain, square, told,
)


def walked_by_states(curve, state, level):
    """The places of a floor in the curve's order, by the states of point 9."""
    if level == 0:
        return [(0,) * curve.dims]
    half = 2 ** (level - 1)
    places = []
    for digit in range(len(curve.parts)):
        corner, inner = part_at(curve, state, digit)
        for place in walked_by_states(curve, inner, level - 1):
            places.append(tuple(bit * half + rest for bit, rest in zip(corner, place)))
    return places


class Fields(unittest.TestCase):
    def test_part(self):
        part = Part((0, 1), ((1, 0), (0, 1)), True)
        self.assertEqual((part.corner, part.turn, part.back), ((0, 1), ((1, 0), (0, 1)), True))
        self.assertIs(part.back, True)
        self.assertIs(Part((0, 1), ((1, 0), (0, 1)), False).back, False)

    def test_curve(self):
        parts = hilbert().parts
        curve = Curve("fold", 2, True, parts)
        self.assertEqual((curve.name, curve.dims, curve.parts), ("fold", 2, parts))
        self.assertIs(curve.joined, True)
        self.assertIs(type(curve.parts), list)
        other = Curve("heap", 3, False, cube().parts)
        self.assertEqual((other.name, other.dims, len(other.parts)), ("heap", 3, 8))
        self.assertIs(other.joined, False)

    def test_a_curve_keeps_a_list_of_its_own(self):
        for curve in all_curves():
            handed = list(curve.parts)
            made = Curve(curve.name, curve.dims, curve.joined, handed)
            before = told(made)
            handed.reverse()
            self.assertEqual(told(made), before)
            handed[0] = Part((9, 9), (), True)
            self.assertEqual(told(made), before)
            handed.append(handed[1])
            self.assertEqual(told(made), before)
            handed.clear()
            self.assertEqual(told(made), before)
            for digit in range(len(curve.parts)):
                state = first_state(curve.dims)
                self.assertEqual(part_at(made, state, digit), part_at(curve, state, digit))

    def test_the_list_handed_in_is_not_changed(self):
        handed = list(square().parts)
        before = list(handed)
        made = Curve("square", 2, False, handed)
        made.parts.pop()
        self.assertEqual(handed, before)

    def test_two_curves_of_one_list(self):
        handed = list(square().parts)
        one, other = Curve("one", 2, False, handed), Curve("other", 2, False, handed)
        one.parts.reverse()
        self.assertEqual(other.parts, handed)
        self.assertEqual((one.name, other.name), ("one", "other"))


class States(unittest.TestCase):
    def test_first_state(self):
        self.assertEqual(first_state(2), (((0, 0), (1, 0)), False))
        self.assertEqual(first_state(3), (((0, 0), (1, 0), (2, 0)), False))
        for dims in (2, 3):
            check_state(self, first_state(dims), dims)

    def test_parts_of_the_whole_floor(self):
        for curve in all_curves():
            for digit, part in enumerate(curve.parts):
                found = part_at(curve, first_state(curve.dims), digit)
                self.assertEqual(found, (part.corner, (part.turn, part.back)))

    def test_part_at_told_ones(self):
        state = (((1, 0), (0, 1)), False)
        back = (((1, 0), (0, 1)), True)
        self.assertEqual(part_at(square(), state, 0), ((0, 0), (((0, 0), (1, 0)), True)))
        self.assertEqual(part_at(square(), state, 1), ((0, 1), (((1, 0), (0, 0)), False)))
        self.assertEqual(part_at(square(), back, 0), ((1, 1), (((1, 0), (0, 1)), False)))
        self.assertEqual(part_at(square(), back, 2), ((0, 1), (((1, 0), (0, 0)), True)))
        self.assertEqual(part_at(square(), back, 3), ((0, 0), (((0, 0), (1, 0)), False)))

    def test_part_at_every_state_and_digit(self):
        for curve in all_curves():
            last = len(curve.parts) - 1
            for state in all_states(curve.dims):
                turn, back = state
                for digit in range(last + 1):
                    part = curve.parts[last - digit if back else digit]
                    corner, inner = part_at(curve, state, digit)
                    check_corner(self, corner, curve.dims)
                    check_state(self, inner, curve.dims)
                    self.assertEqual(corner, turned(turn, part.corner))
                    self.assertIs(inner[1], [back, part.back].count(True) == 1)
                    for place in all_corners(curve.dims):
                        self.assertEqual(turned(inner[0], place), turned(turn, turned(part.turn, place)))

    def test_part_at_answers_a_pair(self):
        for curve in all_curves():
            found = part_at(curve, first_state(curve.dims), 1)
            self.assertIs(type(found), tuple)
            self.assertEqual(len(found), 2)

    def test_digit_at_told_ones(self):
        state = (((1, 0), (0, 1)), False)
        back = (((1, 0), (0, 1)), True)
        corners = [(0, 0), (0, 1), (1, 0), (1, 1)]
        self.assertEqual([digit_at(square(), first_state(2), corner) for corner in corners], [1, 3, 0, 2])
        self.assertEqual([digit_at(square(), state, corner) for corner in corners], [0, 1, 2, 3])
        self.assertEqual([digit_at(square(), back, corner) for corner in corners], [3, 2, 1, 0])

    def test_digit_at_every_state_and_corner(self):
        for curve in all_curves():
            many = len(curve.parts)
            for state in all_states(curve.dims):
                filled = [part_at(curve, state, digit)[0] for digit in range(many)]
                self.assertEqual(sorted(filled), all_corners(curve.dims))
                for corner in all_corners(curve.dims):
                    digit = digit_at(curve, state, corner)
                    self.assertIs(type(digit), int)
                    self.assertEqual(filled[digit], corner)
                    self.assertIn(digit, range(many))

    def test_asking_changes_nothing(self):
        for curve in all_curves():
            before = told(curve)
            for state in all_states(curve.dims):
                for digit in range(len(curve.parts)):
                    once = part_at(curve, state, digit)
                    self.assertEqual(part_at(curve, state, digit), once)
                    self.assertEqual(digit_at(curve, state, once[0]), digit)
            self.assertEqual(told(curve), before)


class Lying(unittest.TestCase):
    def test_states_lead_through_the_floor_as_the_curve_lies(self):
        for curve, most in ((hilbert(), 5), (square(), 4), (cube(), 3)):
            for level in range(most + 1):
                found = walked_by_states(curve, first_state(curve.dims), level)
                self.assertEqual(found, lain(curve, level))
                self.assertEqual(len(set(found)), len(curve.parts) ** level)

    def test_a_back_walks_the_same_floor_from_its_end(self):
        for curve in all_curves():
            for turn, back in all_states(curve.dims):
                ahead = walked_by_states(curve, (turn, back), 2)
                self.assertEqual(walked_by_states(curve, (turn, not back), 2), ahead[::-1])

    def test_the_places_of_hilbert_are_next_to_one_another(self):
        places = walked_by_states(hilbert(), first_state(2), 5)
        for one, other in zip(places, places[1:]):
            self.assertEqual(abs(one[0] - other[0]) + abs(one[1] - other[1]), 1)


if __name__ == "__main__":
    unittest.main()
