"""Points 23 and 24: the stretches of a box, and fewer stretches that hold them."""

import itertools
import unittest

from curveyard.errors import OffFloor, TooWide
from curveyard.numbering import number_at, place_at
from curveyard.stretches import closed, cover, stretches
from tests.samples import (
    UNMET, box_along, boxes_beyond, boxes_on, cube, floor_of, folded, hilbert, lain, meeting_curves, places_of,
    scattered, square, there_and_back, told, winding,
)

LOOSE = [folded("rows", "loose", "00 +x+y", "01 +x+y", "10 +x+y", "11 +x+y"), square(), cube()]
CURVES = meeting_curves() + LOOSE


def runs(numbers):
    """The stretches of some numbers, put together number by number."""
    found = []
    for number in sorted(numbers):
        if found and found[-1][1] + 1 == number:
            found[-1] = (found[-1][0], number)
        else:
            found.append((number, number))
    return found


def asked(curve, level, box):
    """The stretches of a box, by asking the number of each of its places."""
    return runs(number_at(curve, level, place) for place in places_of(box))


def numbers_of(spans):
    return {number for first, last in spans for number in range(first, last + 1)}


def check_stretches(case, spans):
    case.assertIs(type(spans), list)
    for stretch in spans:
        case.assertIs(type(stretch), tuple)
        case.assertEqual([type(number) for number in stretch], [int, int])


class OfBoxes(unittest.TestCase):
    def test_told_ones(self):
        curve = hilbert()
        self.assertEqual(stretches(curve, 2, ((0, 0), (3, 3))), [(0, 15)])
        self.assertEqual(stretches(curve, 2, ((0, 0), (1, 1))), [(0, 3)])
        self.assertEqual(stretches(curve, 2, ((1, 1), (2, 2))), [(2, 2), (7, 8), (13, 13)])
        self.assertEqual(stretches(curve, 2, ((0, 0), (3, 0))), [(0, 1), (14, 15)])
        self.assertEqual(stretches(curve, 2, ((0, 0), (0, 3))), [(0, 0), (3, 5)])
        self.assertEqual(stretches(curve, 2, ((3, 1), (3, 1))), [(12, 12)])
        self.assertEqual(stretches(curve, 3, ((0, 4), (3, 7))), [(16, 31)])

    def test_every_box_of_small_floors(self):
        for curve in CURVES:
            for level in range(4 if curve.dims == 2 else 3):
                numbers = {place: number for number, place in enumerate(lain(curve, level))}
                for box in boxes_on(curve.dims, level):
                    found = stretches(curve, level, box)
                    check_stretches(self, found)
                    self.assertEqual(found, runs(numbers[place] for place in places_of(box)), (curve.name, level, box))

    def test_every_box_of_smaller_floors_of_more_curves(self):
        for curve, levels in UNMET:
            level = 2 if curve.dims == 2 else 1
            numbers = {place: number for number, place in enumerate(lain(curve, level))}
            for box in boxes_on(curve.dims, level):
                self.assertEqual(stretches(curve, level, box), runs(numbers[place] for place in places_of(box)))

    def test_the_whole_floor_and_its_parts_are_one_stretch(self):
        for curve in CURVES:
            for level in range(7 if curve.dims == 2 else 5):
                whole = len(curve.parts) ** level
                self.assertEqual(stretches(curve, level, floor_of(curve.dims, level)), [(0, whole - 1)])
                if level == 0:
                    continue
                half = 2 ** (level - 1)
                quarter = whole // len(curve.parts)
                for number, part in enumerate(curve.parts):
                    low = tuple(bit * half for bit in part.corner)
                    box = (low, tuple(along + half - 1 for along in low))
                    self.assertEqual(stretches(curve, level, box), [(quarter * number, quarter * (number + 1) - 1)])

    def test_boxes_of_one_place(self):
        for curve in CURVES:
            for level in (0, 1, 3, 5, 60):
                end = len(curve.parts) ** level
                for number in (0, end // 5, end // 2, end - 1):
                    place = place_at(curve, level, number)
                    self.assertEqual(stretches(curve, level, (place, place)), [(number, number)])

    def test_greater_floors(self):
        for salt, curve in enumerate(CURVES):
            level = 6 if curve.dims == 2 else 4
            chosen = iter(scattered(2 * curve.dims * 30, 2 ** level, salt + 1))
            for step in range(30):
                box = box_along(tuple(sorted((next(chosen), next(chosen)))) for axis in range(curve.dims))
                self.assertEqual(stretches(curve, level, box), asked(curve, level, box), (curve.name, box))

    def test_at_level_60(self):
        middle, end = 2 ** 59, 2 ** 60
        lines = [(0, 0), (0, 4), (end - 1, end - 1), (end - 3, end - 1), (middle - 1, middle), (middle - 3, middle + 1),
                 (end // 3, end // 3 + 2), (middle, middle + 3)]
        for curve in CURVES:
            boxes = [box_along(found) for found in itertools.product(lines, repeat=curve.dims)]
            for box in boxes[::3 if curve.dims == 2 else 23]:
                found = stretches(curve, 60, box)
                check_stretches(self, found)
                self.assertEqual(found, asked(curve, 60, box), (curve.name, box))

    def test_a_great_part_at_level_60(self):
        for curve in CURVES:
            side = 64 if curve.dims == 2 else 16
            for number in (0, 3 * 4096, len(curve.parts) ** 60 // 7 // 4096 * 4096, len(curve.parts) ** 60 - 4096):
                low = tuple(along // side * side for along in place_at(curve, 60, number))
                box = (low, tuple(along + side - 1 for along in low))
                self.assertEqual(stretches(curve, 60, box), [(number, number + 4095)])

    def test_what_is_handed_in_stays(self):
        for curve in CURVES:
            before = told(curve)
            box = ((1,) * curve.dims, (2,) * curve.dims)
            stretches(curve, 2, box)
            self.assertEqual(told(curve), before)
            self.assertEqual(box, ((1,) * curve.dims, (2,) * curve.dims))

    def test_each_answer_is_the_askers_own(self):
        box = ((0, 0), (3, 0))
        kept = stretches(hilbert(), 2, box)
        kept.append("more")
        kept[0] = None
        self.assertEqual(stretches(hilbert(), 2, box), [(0, 1), (14, 15)])
        self.assertEqual(kept, [None, (14, 15), "more"])


class Refused(unittest.TestCase):
    def refused(self, error, curve, level, box):
        before = told(curve)
        with self.assertRaises(error, msg=(curve.name, level, box)) as caught:
            stretches(curve, level, box)
        self.assertIs(type(caught.exception), error)
        self.assertEqual(told(curve), before)

    def test_just_4096_places(self):
        for curve in CURVES:
            sides = [(64, 64), (1, 4096), (4096, 1), (2, 2048)] if curve.dims == 2 else [(16, 16, 16), (1, 4096, 1)]
            for lengths in sides:
                for start in (0, 5):
                    box = box_along((start, start + length - 1) for length in lengths)
                    found = stretches(curve, 13, box)
                    check_stretches(self, found)
                    self.assertEqual(sum(last - first + 1 for first, last in found), 4096)
                    self.assertEqual(runs(numbers_of(found)), found)
        box = ((1, 2), (64, 65))
        self.assertEqual(stretches(square(), 7, box), asked(square(), 7, box))
        box = ((1, 2, 3), (16, 17, 18))
        self.assertEqual(stretches(winding(), 5, box), asked(winding(), 5, box))

    def test_more_than_4096_places(self):
        for level in (13, 60):
            for curve in (hilbert(), square()):
                for lengths in ((64, 65), (65, 64), (1, 4097), (4097, 1), (17, 241), (2 ** level, 2 ** level),
                                (1, 2 ** level)):
                    self.refused(TooWide, curve, level, box_along((0, length - 1) for length in lengths))
            for curve in (cube(), winding()):
                for lengths in ((16, 16, 17), (17, 16, 16), (1, 1, 4097), (4097, 1, 1), (1, 64, 65),
                                (2 ** level,) * 3):
                    self.refused(TooWide, curve, level, box_along((2 ** level - length, 2 ** level - 1)
                                                                 for length in lengths))
        self.refused(TooWide, hilbert(), 7, ((0, 0), (127, 127)))
        self.refused(TooWide, cube(), 5, ((0, 0, 0), (31, 31, 31)))

    def test_beyond_the_floor_and_of_another_count_of_axes(self):
        for curve in CURVES:
            for level in (0, 1, 3, 6, 60):
                for box in boxes_beyond(curve.dims, level):
                    self.refused(OffFloor, curve, level, box)

    def test_off_floor_goes_first(self):
        far = 10 ** 30
        for level in (0, 3, 6, 60):
            for curve in (hilbert(), there_and_back(), square()):
                for box in (((0, 0), (4096, 2 ** level)), ((0, -1), (2 ** level + 4096, 0)), ((-far, -far), (far, far)),
                            ((0, 0, 0), (99, 99, 99)), ((0,), (far,)), ((0, 0, 0), (far, far, far))):
                    self.refused(OffFloor, curve, level, box)
            for curve in (cube(), winding()):
                for box in (((0, 0, 0), (0, 4096, 2 ** level)), ((-1, 0, 0), (4096, 0, 2 ** level)),
                            ((0, 0), (99, 99)), ((0, 0, 0, 0), (9, 9, 9, 9))):
                    self.refused(OffFloor, curve, level, box)


SPANS = [(2, 5), (7, 7), (10, 19), (23, 23), (25, 30)]
FAR = 2 ** 150


def spans_within(length):
    """Every list of stretches of numbers from 0 to less than length."""
    return [runs(number for number in range(length) if bits >> number & 1) for bits in range(2 ** length)]


class Closed(unittest.TestCase):
    def test_told_ones(self):
        self.assertEqual(closed(SPANS, 0), SPANS)
        self.assertEqual(closed(SPANS, 1), [(2, 7), (10, 19), (23, 30)])
        self.assertEqual(closed(SPANS, 2), [(2, 19), (23, 30)])
        self.assertEqual(closed(SPANS, 3), [(2, 30)])
        self.assertEqual(closed(SPANS, 1000), [(2, 30)])

    def test_a_gap_of_just_the_width(self):
        for width in (1, 2, 3, 50, FAR):
            spans = [(0, 3), (4 + width, 9 + width)]
            self.assertEqual(closed(spans, width - 1), spans)
            self.assertEqual(closed(spans, width), [(0, 9 + width)])
            self.assertEqual(closed(spans, width + 1), [(0, 9 + width)])

    def test_it_goes_on_along_the_list(self):
        spans = [(10 * k, 10 * k + 6) for k in range(9)]
        self.assertEqual(closed(spans, 2), spans)
        self.assertEqual(closed(spans, 3), [(0, 86)])
        apart = [(0, 0), (2, 2), (4, 4), (9, 9), (11, 11), (13, 20)]
        self.assertEqual(closed(apart, 1), [(0, 4), (9, 20)])
        # What is joined grows wider, but the spaces that are left don't.
        self.assertEqual(closed(apart, 3), [(0, 4), (9, 20)])
        self.assertEqual(closed(apart, 4), [(0, 20)])

    def test_none_and_one(self):
        for gap in (0, 1, 7, FAR):
            self.assertEqual(closed([], gap), [])
            self.assertEqual(closed([(3, 8)], gap), [(3, 8)])
            self.assertEqual(closed([(0, 0)], gap), [(0, 0)])

    def test_every_short_list(self):
        for spans in spans_within(9):
            numbers = numbers_of(spans)
            for gap in range(9):
                kept = set(numbers)
                for one, other in itertools.combinations(sorted(numbers), 2):
                    if other - one - 1 <= gap:
                        kept.update(range(one, other))
                found = closed(spans, gap)
                check_stretches(self, found)
                self.assertEqual(found, runs(kept))

    def test_the_list_handed_in_stays(self):
        for gap in (0, 1, 5):
            spans = list(SPANS)
            found = closed(spans, gap)
            self.assertEqual(spans, SPANS)
            self.assertIsNot(found, spans)
            found.clear()
            self.assertEqual(spans, SPANS)
        spans = []
        closed(spans, 1).append((0, 0))
        self.assertEqual(spans, [])


class Cover(unittest.TestCase):
    def test_told_ones(self):
        self.assertEqual(cover(SPANS, 1), [(2, 30)])
        self.assertEqual(cover(SPANS, 2), [(2, 19), (23, 30)])
        self.assertEqual(cover(SPANS, 3), [(2, 7), (10, 19), (23, 30)])
        self.assertEqual(cover(SPANS, 4), [(2, 5), (7, 7), (10, 19), (23, 30)])
        for many in (5, 6, 7, 100):
            self.assertEqual(cover(SPANS, many), SPANS)

    def test_of_equally_wide_spaces_the_earlier_stay(self):
        spans = [(10 * k, 10 * k + 6) for k in range(6)]
        self.assertEqual(cover(spans, 1), [(0, 56)])
        self.assertEqual(cover(spans, 2), [(0, 6), (10, 56)])
        self.assertEqual(cover(spans, 4), [(0, 6), (10, 16), (20, 26), (30, 56)])
        self.assertEqual(cover(spans, 6), spans)
        mixed = [(0, 0), (2, 2), (5, 5), (7, 7), (10, 10), (12, 12)]
        self.assertEqual(cover(mixed, 2), [(0, 2), (5, 12)])
        self.assertEqual(cover(mixed, 3), [(0, 2), (5, 7), (10, 12)])
        self.assertEqual(cover(mixed, 4), [(0, 0), (2, 2), (5, 7), (10, 12)])
        self.assertEqual(cover(mixed, 5), [(0, 0), (2, 2), (5, 5), (7, 7), (10, 12)])

    def test_wide_numbers(self):
        spans = [(0, FAR), (FAR + 3, FAR + 4), (FAR + 6, 2 * FAR), (3 * FAR, 3 * FAR)]
        self.assertEqual(cover(spans, 2), [(0, 2 * FAR), (3 * FAR, 3 * FAR)])
        self.assertEqual(cover(spans, 3), [(0, FAR), (FAR + 3, 2 * FAR), (3 * FAR, 3 * FAR)])

    def test_none_and_one(self):
        for many in (1, 2, 9):
            self.assertEqual(cover([], many), [])
            self.assertEqual(cover([(3, 8)], many), [(3, 8)])

    def test_none_of_so_many_hold_fewer(self):
        for spans in spans_within(9):
            for many in range(1, 7):
                found = cover(spans, many)
                check_stretches(self, found)
                if len(spans) <= many:
                    self.assertEqual(found, spans)
                    continue
                self.assertLessEqual(len(found), many)
                self.assertLessEqual(numbers_of(spans), numbers_of(found))
                self.assertEqual(runs(numbers_of(found)), found)
                fewest = min(held for held in self.held_by_all_covers(spans, many))
                self.assertEqual(len(numbers_of(found)), fewest)
                self.check_spaces(spans, found, many)

    def held_by_all_covers(self, spans, many):
        for cuts in itertools.combinations(range(1, len(spans)), many - 1):
            edges = [0, *cuts, len(spans)]
            yield sum(spans[end - 1][1] - spans[start][0] + 1 for start, end in zip(edges, edges[1:]))

    def check_spaces(self, spans, found, many):
        held = numbers_of(found)
        stay, filled = [], []
        for (first, last), (start, end) in zip(spans, spans[1:]):
            (filled if last + 1 in held else stay).append((start - last - 1, last))
        self.assertEqual(len(stay), many - 1)
        for width, at in stay:
            for other, behind in filled:
                self.assertTrue(width > other or width == other and at < behind, (spans, found))

    def test_of_the_stretches_of_a_box(self):
        for curve in CURVES:
            level = 5 if curve.dims == 2 else 3
            spans = stretches(curve, level, ((1,) * curve.dims, (2 ** level - 2,) * curve.dims))
            for many in (1, 2, 5, len(spans) - 1):
                found = cover(spans, many)
                self.assertEqual(len(found), many)
                self.assertEqual((found[0][0], found[-1][1]), (spans[0][0], spans[-1][1]))
                self.assertLessEqual(numbers_of(spans), numbers_of(found))

    def test_the_list_handed_in_stays(self):
        for many in (1, 2, 5, 9):
            spans = list(SPANS)
            found = cover(spans, many)
            self.assertEqual(spans, SPANS)
            self.assertIsNot(found, spans)
            found.clear()
            self.assertEqual(spans, SPANS)
        spans = []
        cover(spans, 1).append((0, 0))
        self.assertEqual(spans, [])


if __name__ == "__main__":
    unittest.main()
