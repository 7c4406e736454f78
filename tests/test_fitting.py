"""Points 13 to 16: whether the next parts of a curve meet, and what follows of it."""

import itertools
import unittest

from curveyard.curves import Curve, Part
from curveyard.fitting import meeting_of, unmet_at
from tests.samples import UNMET, all_states, folded, lain, lain_at, meeting_curves, one_step, told, winding

# No two parts of the curves here stay met up to this level and are unmet beyond it.
FAR = 14


def meet_at(curve, first, level):
    """Whether part first and the next one meet at a level, by looking at the two places."""
    start = (first + 1) * len(curve.parts) ** (level - 1)
    return one_step(lain_at(curve, level, start - 1), lain_at(curve, level, start))


def looked_up(curve, first):
    for level in range(1, FAR):
        if not meet_at(curve, first, level):
            return level
    return None


def firsts(curve):
    return range(len(curve.parts) - 1)


def rings():
    """Curves that go round the four corners, two ways of lying in the first and all in the others."""
    corners = ((0, 0), (0, 1), (1, 1), (1, 0))
    for turn in (((1, 0), (0, 0)), ((0, 0), (1, 1))):
        for states in itertools.product([(turn, False)], all_states(2), all_states(2), all_states(2)):
            parts = [Part(corner, turn, back) for corner, (turn, back) in zip(corners, states)]
            yield Curve("ring", 2, True, parts)


def cubes():
    """Curves of three axes: those told, with every fifth way of lying in one of the parts."""
    for curve in [curve for curve, levels in UNMET if curve.dims == 3] + [winding()]:
        for changed, part in enumerate(curve.parts):
            for turn, back in all_states(3)[changed % 5::5]:
                parts = list(curve.parts)
                parts[changed] = Part(part.corner, turn, back)
                yield Curve("cube", 3, True, parts)


class UnmetAt(unittest.TestCase):
    def test_told_ones(self):
        for curve, levels in UNMET:
            with self.subTest(curve=curve.name):
                self.assertEqual([unmet_at(curve, first) for first in firsts(curve)], levels)

    def test_told_ones_by_looking(self):
        for curve, levels in UNMET:
            with self.subTest(curve=curve.name):
                self.assertEqual([looked_up(curve, first) for first in firsts(curve)], levels)

    def test_parts_that_meet_at_every_level(self):
        for curve in meeting_curves():
            for first in firsts(curve):
                self.assertIsNone(unmet_at(curve, first))
                self.assertIsNone(looked_up(curve, first))

    def test_corners_that_are_no_neighbours(self):
        across = folded("across", "loose", "00 +x+y", "11 +x+y", "10 +x+y", "01 +x+y")
        self.assertEqual([unmet_at(across, first) for first in firsts(across)], [1, 2, 1])
        space = folded("space", "loose", *[f"{corner} +x+y+z" for corner in (
            "000", "111", "001", "010", "110", "101", "100", "011")])
        self.assertEqual([unmet_at(space, first) for first in firsts(space)], [1, 1, 1, 2, 1, 2, 1])

    def test_curves_of_two_axes_by_looking(self):
        for curve in rings():
            for first in firsts(curve):
                self.assertEqual(unmet_at(curve, first), looked_up(curve, first), told(curve))

    def test_curves_of_three_axes_by_looking(self):
        for curve in cubes():
            for first in firsts(curve):
                self.assertEqual(unmet_at(curve, first), looked_up(curve, first), told(curve))

    def test_the_promise_is_not_asked(self):
        for curve, levels in UNMET:
            for joined in (True, False):
                other = Curve(curve.name, curve.dims, joined, curve.parts)
                self.assertEqual([unmet_at(other, first) for first in firsts(other)], levels)

    def test_a_level_is_a_whole_number(self):
        for curve, levels in UNMET:
            for first in firsts(curve):
                self.assertIn(type(unmet_at(curve, first)), (int, type(None)))


class MeetingOf(unittest.TestCase):
    def test_told_ones(self):
        wanted = {
            "square": (1, 1), "cube": (1, 1), "rows": (1, 1), "ring": (0, 2), "late": (2, 3), "later": (1, 4),
            "first": (0, 4), "many": (6, 2), "levels": (1, 4), "third": (1, 3),
        }
        self.assertEqual({curve.name: meeting_of(curve) for curve, levels in UNMET}, wanted)

    def test_curves_that_meet(self):
        for curve in meeting_curves():
            self.assertIsNone(meeting_of(curve))
            self.assertIsNone(meeting_of(Curve(curve.name, curve.dims, False, curve.parts)))

    def test_the_least_level_and_at_it_the_least_number(self):
        found = {}
        for curve in itertools.chain(rings(), cubes()):
            levels = [looked_up(curve, first) for first in firsts(curve)]
            unmet = [(level, first) for first, level in enumerate(levels) if level is not None]
            wanted = (min(unmet)[1], min(unmet)[0]) if unmet else None
            self.assertEqual(meeting_of(curve), wanted, told(curve))
            found[wanted] = True
        # The curves are of many kinds, or this test would tell little.
        for pair in (None, (0, 2), (1, 2), (2, 2), (0, 3), (1, 4), (6, 2), (5, 3)):
            self.assertIn(pair, found)

    def test_a_pair_of_whole_numbers(self):
        for curve, levels in UNMET:
            found = meeting_of(curve)
            self.assertIs(type(found), tuple)
            self.assertEqual([type(value) for value in found], [int, int])

    def test_asking_changes_nothing(self):
        for curve in [curve for curve, levels in UNMET] + meeting_curves():
            before = told(curve)
            once = [unmet_at(curve, first) for first in firsts(curve)], meeting_of(curve)
            again = [unmet_at(curve, first) for first in firsts(curve)], meeting_of(curve)
            self.assertEqual(once, again)
            self.assertEqual(told(curve), before)


class WhatFollows(unittest.TestCase):
    def test_unmet_at_every_greater_level(self):
        for curve, levels in UNMET:
            for first, least in enumerate(levels):
                found = [meet_at(curve, first, level) for level in range(1, FAR)]
                met = FAR - 1 if least is None else least - 1
                self.assertEqual(found, [True] * met + [False] * (FAR - 1 - met))

    def test_below_the_level_all_next_numbers_are_next_to_one_another(self):
        for curve in [curve for curve, levels in UNMET] + meeting_curves():
            unmet = meeting_of(curve)
            for level in range(5 if curve.dims == 2 else 4):
                places = lain(curve, level)
                steps = [one_step(one, other) for one, other in zip(places, places[1:])]
                with self.subTest(curve=curve.name, level=level):
                    self.assertEqual(all(steps), unmet is None or level < unmet[1])


if __name__ == "__main__":
    unittest.main()
