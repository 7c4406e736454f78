"""Points 2 and 18 to 20: the numbers and the places of a floor."""

import itertools
import unittest

from curveyard.curvetext import curve_of, curve_text
from curveyard.errors import OffFloor
from curveyard.numbering import full, neighbours, next_to, number_at, place_at
from tests.samples import (
    UNMET, cube, folded, hilbert, lain, lain_at, meeting_curves, one_step, square, there_and_back, told, winding,
)

CURVES = meeting_curves() + [curve for curve, levels in UNMET]
BOTH = (square(), cube())


def most_level(curve):
    """The greatest level whose floor is walked whole here."""
    return 4 if curve.dims == 2 else 3


def far_numbers(dims, level):
    """Some numbers of a great floor: its ends, its middle and others."""
    end = 2 ** (dims * level)
    found = [0, 1, 2, end // 2 - 1, end // 2, end - 3, end - 2, end - 1]
    return found + [end * k // 997 for k in range(1, 997, 83)]


def floor_places(dims, level):
    return list(itertools.product(range(2 ** level), repeat=dims))


class Refusing(unittest.TestCase):
    def off_floor(self, ask, *values):
        before = told(values[0])
        with self.assertRaises(OffFloor, msg=values[1:]) as caught:
            ask(*values)
        self.assertIs(type(caught.exception), OffFloor)
        self.assertEqual(told(values[0]), before)

    def check_place(self, place, dims):
        self.assertIs(type(place), tuple)
        self.assertEqual([type(along) for along in place], [int] * dims)


class Full(unittest.TestCase):
    def test_every_level(self):
        for dims in (2, 3):
            for level in range(65):
                self.assertEqual(full(dims, level), 2 ** (dims * level))
                self.assertIs(type(full(dims, level)), int)

    def test_told_ones(self):
        self.assertEqual([full(2, level) for level in range(5)], [1, 4, 16, 64, 256])
        self.assertEqual([full(3, level) for level in range(5)], [1, 8, 64, 512, 4096])


class Places(Refusing):
    def test_told_ones(self):
        places = [place_at(hilbert(), 2, number) for number in range(16)]
        self.assertEqual(places, [
            (0, 0), (1, 0), (1, 1), (0, 1), (0, 2), (0, 3), (1, 3), (1, 2),
            (2, 2), (2, 3), (3, 3), (3, 2), (3, 1), (2, 1), (2, 0), (3, 0),
        ])

    def test_every_number_of_small_floors(self):
        for curve in CURVES:
            for level in range(most_level(curve) + 1):
                found = [place_at(curve, level, number) for number in range(2 ** (curve.dims * level))]
                self.assertEqual(found, lain(curve, level), (curve.name, level))
                self.assertEqual(sorted(found), floor_places(curve.dims, level))
                for number, place in enumerate(found):
                    self.check_place(place, curve.dims)
                    self.assertEqual(number_at(curve, level, place), number)
                    self.assertIs(type(number_at(curve, level, place)), int)

    def test_level_0(self):
        for curve in CURVES:
            self.assertEqual(place_at(curve, 0, 0), (0,) * curve.dims)
            self.assertEqual(number_at(curve, 0, (0,) * curve.dims), 0)

    def test_great_levels(self):
        for curve in CURVES:
            for level in (7, 31, 32, 59, 60, 62):
                for number in far_numbers(curve.dims, level):
                    place = place_at(curve, level, number)
                    self.check_place(place, curve.dims)
                    self.assertEqual(place, lain_at(curve, level, number))
                    self.assertEqual(number_at(curve, level, place), number)
                    self.assertTrue(all(0 <= along < 2 ** level for along in place))

    def test_level_60_first_and_last(self):
        far = 2 ** 60 - 1
        self.assertEqual(place_at(hilbert(), 60, 0), (0, 0))
        self.assertEqual(place_at(hilbert(), 60, 2 ** 120 - 1), (far, 0))
        self.assertEqual(number_at(hilbert(), 60, (0, 0)), 0)
        self.assertEqual(number_at(hilbert(), 60, (far, 0)), 2 ** 120 - 1)
        rows = folded("rows", "loose", *[f"{bits:03b} +x+y+z" for bits in range(8)])
        self.assertEqual(place_at(rows, 60, 0), (0, 0, 0))
        self.assertEqual(place_at(rows, 60, 2 ** 180 - 1), (far, far, far))
        self.assertEqual(number_at(rows, 60, (far, far, far)), 2 ** 180 - 1)
        self.assertEqual(number_at(rows, 60, (0, 0, far)), int("001" * 60, 2))
        self.assertEqual(number_at(rows, 60, (far, 0, 0)), int("100" * 60, 2))

    def test_every_place_of_a_great_floors_edges(self):
        for curve in BOTH:
            for place in itertools.product((0, 1, 2 ** 59 - 1, 2 ** 59, 2 ** 60 - 1), repeat=curve.dims):
                number = number_at(curve, 60, place)
                self.assertTrue(0 <= number < 2 ** (60 * curve.dims))
                self.assertEqual(place_at(curve, 60, number), place)
                self.assertEqual(lain_at(curve, 60, number), place)

    def test_along_a_joined_curve_next_numbers_are_next_places(self):
        for curve in meeting_curves():
            read = curve_of(curve_text(curve))
            for level in range(most_level(curve) + 1):
                places = [place_at(read, level, number) for number in range(full(curve.dims, level))]
                for one, other in zip(places, places[1:]):
                    self.assertTrue(one_step(one, other))
            for level in (20, 60):
                last = full(curve.dims, level) - 1
                for number in [number for number in far_numbers(curve.dims, level) if number < last]:
                    self.assertTrue(one_step(place_at(read, level, number), place_at(read, level, number + 1)))

    def test_asking_changes_nothing(self):
        for curve in CURVES:
            before = told(curve)
            place = place_at(curve, 5, 11)
            self.assertEqual(place_at(curve, 5, 11), place)
            self.assertEqual(number_at(curve, 5, place), 11)
            self.assertEqual(neighbours(curve, 5, 11), neighbours(curve, 5, 11))
            self.assertEqual(told(curve), before)


class OffTheFloor(Refusing):
    def test_numbers(self):
        for curve in BOTH + (hilbert(), winding()):
            for level in (0, 1, 2, 3, 10, 60):
                end = 2 ** (curve.dims * level)
                for number in (-1, -2, -end, -end - 1, end, end + 1, 2 * end, end * end + 5, -(10 ** 60), 10 ** 60):
                    self.off_floor(place_at, curve, level, number)
                    self.off_floor(neighbours, curve, level, number)
                place_at(curve, level, 0)
                place_at(curve, level, end - 1)

    def test_coordinates_on_each_axis(self):
        for curve in BOTH + (there_and_back(), winding()):
            for level in (0, 1, 2, 3, 10, 60):
                side = 2 ** level
                for inside in (0, side - 1):
                    for axis in range(curve.dims):
                        for along in (-1, -2, -side, side, side + 1, 2 * side, 10 ** 60, -(10 ** 60)):
                            place = [inside] * curve.dims
                            place[axis] = along
                            self.off_floor(number_at, curve, level, tuple(place))
                    number_at(curve, level, (inside,) * curve.dims)

    def test_numbers_of_thousands_of_figures(self):
        # Python itself does not write numbers of this length, so no refusal may try to.
        far = 10 ** 5000
        for curve in CURVES:
            for along in (far, -far):
                self.off_floor(place_at, curve, 3, along)
                self.off_floor(neighbours, curve, 3, along)
                self.off_floor(number_at, curve, 3, (0,) * (curve.dims - 1) + (along,))

    def test_all_coordinates_beyond(self):
        for curve in BOTH:
            self.off_floor(number_at, curve, 2, (4,) * curve.dims)
            self.off_floor(number_at, curve, 2, (-1,) * curve.dims)
            self.off_floor(number_at, curve, 2, (-1, 4, 0)[:curve.dims])


class NextTo(unittest.TestCase):
    def test_told_ones(self):
        for one, other in (((0, 0), (0, 1)), ((0, 0), (1, 0)), ((5, 7), (4, 7)), ((5, 7), (5, 6)), ((-1, 0), (0, 0)),
                           ((-3, -4), (-3, -5)), ((0, 0, 0), (0, 0, 1)), ((2, 3, 4), (2, 2, 4)),
                           ((0, 0, 0), (-1, 0, 0))):
            self.assertIs(next_to(one, other), True)
            self.assertIs(next_to(other, one), True)

    def test_no_neighbours(self):
        for one, other in (((0, 0), (0, 0)), ((0, 0), (1, 1)), ((0, 1), (1, 0)), ((0, 0), (0, 2)), ((0, 0), (2, 0)),
                           ((0, 0), (1, 2)), ((-1, 0), (1, 0)), ((-1, -1), (1, 1)), ((3, 3), (-3, -3)),
                           ((1, 0), (-1, 1)),
                           ((1, 2), (2, 1)), ((0, 5), (0, -5)), ((0, 0, 0), (0, 0, 0)), ((0, 0, 0), (1, 1, 1)),
                           ((0, 0, 0), (1, 0, 1)), ((0, 0, 0), (0, -1, 1)), ((0, 0, 0), (0, 0, 2)),
                           ((0, 0, 0), (1, -1, 1))):
            self.assertIs(next_to(one, other), False)
            self.assertIs(next_to(other, one), False)

    def test_each_two_places_around_nought(self):
        for dims, reach in ((2, 3), (3, 2)):
            places = list(itertools.product(range(-reach, reach), repeat=dims))
            for one, other in itertools.product(places, repeat=2):
                self.assertIs(next_to(one, other), one_step(one, other))

    def test_far_places(self):
        far = 2 ** 60
        self.assertIs(next_to((far, -far), (far - 1, -far)), True)
        self.assertIs(next_to((far, -far), (far, -far - 1)), True)
        self.assertIs(next_to((far, -far), (far - 1, -far - 1)), False)
        self.assertIs(next_to((far, 0), (-far, 0)), False)


class Neighbours(Refusing):
    def test_told_ones(self):
        self.assertEqual(neighbours(hilbert(), 2, 0), [1, 3])
        self.assertEqual(neighbours(hilbert(), 2, 2), [1, 3, 7, 13])
        self.assertEqual(neighbours(hilbert(), 2, 5), [4, 6])
        self.assertEqual(neighbours(hilbert(), 2, 3), [0, 2, 4])
        self.assertEqual(neighbours(hilbert(), 2, 13), [2, 8, 12, 14])
        self.assertEqual(neighbours(hilbert(), 1, 0), [1, 3])
        self.assertEqual(neighbours(square(), 1, 0), [1, 2])

    def test_every_number_of_small_floors(self):
        for curve in CURVES:
            for level in range(most_level(curve)):
                places = lain(curve, level)
                for number, place in enumerate(places):
                    wanted = [other for other in range(len(places)) if one_step(place, places[other])]
                    found = neighbours(curve, level, number)
                    self.assertEqual(found, wanted)
                    self.assertIs(type(found), list)
                    self.assertEqual({type(other) for other in found} | {int}, {int})

    def test_level_0(self):
        for curve in CURVES:
            self.assertEqual(neighbours(curve, 0, 0), [])

    def test_corners_edges_and_middle(self):
        for curve in CURVES:
            for level in (2, 3, 60):
                far, middle = 2 ** level - 1, 2 ** (level - 1)
                for place in itertools.product((0, middle, far), repeat=curve.dims):
                    found = neighbours(curve, level, number_at(curve, level, place))
                    inner = [along for along in place if along == middle]
                    self.assertEqual(len(found), curve.dims + len(inner))
                    self.assertEqual(found, sorted(found))
                    self.assertEqual(len(set(found)), len(found))
                    for number in found:
                        self.assertTrue(one_step(place, place_at(curve, level, number)))

    def test_the_list_is_the_askers_own(self):
        curve = hilbert()
        found, kept = neighbours(curve, 2, 2), neighbours(curve, 2, 2)
        found.clear()
        self.assertEqual(kept, [1, 3, 7, 13])
        self.assertEqual(neighbours(curve, 2, 2), [1, 3, 7, 13])

    def test_refusals(self):
        for curve in BOTH:
            self.off_floor(neighbours, curve, 0, 1)
            self.off_floor(neighbours, curve, 0, -1)
            self.off_floor(neighbours, curve, 3, full(curve.dims, 3))
            self.off_floor(neighbours, curve, 3, -1)


if __name__ == "__main__":
    unittest.main()
