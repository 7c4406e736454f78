"""Points 21 and 22: boxes of places, and what is asked of them."""

import itertools
import unittest

from curveyard.boxes import box_of, common, gap, grown, holds, meets, on_floor, volume, within
from curveyard.errors import BadBox
from tests.samples import box_along, places_of

FAR = 10 ** 30
LINES = tuple(itertools.combinations_with_replacement(range(-1, 3), 2))


def boxes_of(dims, step=1):
    found = [box_along(lines) for lines in itertools.product(LINES, repeat=dims)]
    return found[::step]


SQUARES = boxes_of(2)
CUBES = boxes_of(3, 23)


def pairs():
    return itertools.chain(itertools.product(SQUARES, repeat=2), itertools.product(CUBES, repeat=2))


class Kinds(unittest.TestCase):
    def check_box(self, box, dims):
        self.assertIs(type(box), tuple)
        self.assertEqual([type(place) for place in box], [tuple, tuple])
        for place in box:
            self.assertEqual([type(along) for along in place], [int] * dims)


class Making(Kinds):
    def test_of_one_place(self):
        for place in ((0, 0), (5, 7), (-3, 2), (-4, -9), (FAR, -FAR), (0, 0, 0), (1, -2, 3), (FAR, FAR, -FAR)):
            box = box_of(place, place)
            self.assertEqual(box, (place, place))
            self.check_box(box, len(place))

    def test_of_many_places(self):
        for low, high in (((0, 0), (1, 0)), ((0, 0), (7, 9)), ((-5, -6), (-5, -2)), ((-1, -1), (1, 1)),
                          ((-FAR, FAR), (FAR, FAR + 1)), ((0, 1, 2), (3, 4, 5)), ((-3, 0, 2), (-3, 0, 3))):
            box = box_of(low, high)
            self.assertEqual(box, (low, high))
            self.check_box(box, len(low))

    def test_low_beyond_high_on_each_axis(self):
        for low, high in (((0, 0), (4, 4)), ((-5, -5), (-2, -2)), ((FAR, FAR), (FAR, FAR)), ((0, 0, 0), (4, 4, 4)),
                          ((-3, -3, -3), (2, 2, 2))):
            for axis in range(len(low)):
                for beyond in (1, 2, FAR):
                    lifted = low[:axis] + (high[axis] + beyond,) + low[axis + 1:]
                    self.bad_box(lifted, high)
                    sunk = high[:axis] + (low[axis] - beyond,) + high[axis + 1:]
                    self.bad_box(low, sunk)
                level = low[:axis] + (high[axis],) + low[axis + 1:]
                self.assertEqual(box_of(level, high), (level, high))

    def test_low_beyond_high_on_all_axes(self):
        self.bad_box((1, 1), (0, 0))
        self.bad_box((0, 0), (-1, -1))
        self.bad_box((2, 2, 2), (1, 1, 1))
        self.bad_box((FAR, 0), (-FAR, -1))

    def test_coordinates_of_thousands_of_figures(self):
        # Python itself does not write numbers of this length, so no refusal may try to.
        far = 10 ** 5000
        self.bad_box((far, 0), (0, 0))
        self.bad_box((0, 0, 0), (1, 1, -far))
        self.assertTrue(box_of((-far, 0), (far, far)) == ((-far, 0), (far, far)))

    def bad_box(self, low, high):
        with self.assertRaises(BadBox, msg=(low, high)) as caught:
            box_of(low, high)
        self.assertIs(type(caught.exception), BadBox)


class OnFloor(unittest.TestCase):
    def test_at_each_edge(self):
        for dims in (2, 3):
            for level in (0, 1, 2, 3, 6, 60):
                side = 2 ** level
                low, high = (0,) * dims, (side - 1,) * dims
                self.assertIs(on_floor((low, high), dims, level), True)
                self.assertIs(on_floor((low, low), dims, level), True)
                self.assertIs(on_floor((high, high), dims, level), True)
                for axis in range(dims):
                    below = low[:axis] + (-1,) + low[axis + 1:]
                    above = high[:axis] + (side,) + high[axis + 1:]
                    for box in ((below, high), (below, low), (low, above), (high, above), (below, above),
                                (below, below), (above, above)):
                        self.assertIs(on_floor(box, dims, level), False)

    def test_far_off(self):
        for box in (((FAR, FAR), (FAR, FAR)), ((-FAR, -FAR), (-FAR, -FAR)), ((-FAR, -FAR), (FAR, FAR)),
                    ((0, 0), (0, FAR)), ((-FAR, 0), (0, 0))):
            self.assertIs(on_floor(box, 2, 6), False)

    def test_another_count_of_axes(self):
        for level in (0, 3):
            self.assertIs(on_floor(((0, 0), (0, 0)), 3, level), False)
            self.assertIs(on_floor(((0, 0, 0), (0, 0, 0)), 2, level), False)
        self.assertIs(on_floor(((0, 0), (0, 0)), 2, 0), True)
        self.assertIs(on_floor(((0, 0, 0), (0, 0, 0)), 3, 0), True)

    def test_as_its_places_are(self):
        for dims, boxes in ((2, SQUARES), (3, CUBES)):
            for level in (0, 1, 2):
                floor = set(itertools.product(range(2 ** level), repeat=dims))
                for box in boxes:
                    self.assertIs(on_floor(box, dims, level), places_of(box) <= floor)


class Asking(Kinds):
    def test_holds(self):
        for dims, boxes in ((2, SQUARES), (3, CUBES)):
            around = list(itertools.product(range(-3, 5), repeat=dims))
            for box in boxes:
                places = places_of(box)
                for place in around:
                    self.assertIs(holds(box, place), place in places)

    def test_holds_far_places(self):
        box = ((-FAR, 3), (FAR, 4))
        self.assertIs(holds(box, (-FAR, 3)), True)
        self.assertIs(holds(box, (FAR, 4)), True)
        self.assertIs(holds(box, (0, 5)), False)
        self.assertIs(holds(box, (FAR + 1, 3)), False)
        self.assertIs(holds(box, (-FAR - 1, 3)), False)

    def test_meets_within_and_common_of_each_two(self):
        known = {box: places_of(box) for box in SQUARES + CUBES}
        for one, other in pairs():
            shared = known[one] & known[other]
            self.assertIs(meets(one, other), bool(shared))
            self.assertIs(within(one, other), known[one] <= known[other])
            found = common(one, other)
            if shared:
                self.check_box(found, len(one[0]))
                self.assertEqual(known[found] if found in known else places_of(found), shared)
                self.assertEqual(found, (min(shared), max(shared)))
            else:
                self.assertIsNone(found)

    def test_told_ones(self):
        box, inner, beside = ((0, 0), (3, 3)), ((1, 2), (2, 2)), ((4, 0), (5, 3))
        cross, apart, corner = ((-2, 1), (9, 2)), ((0, 5), (3, 6)), ((3, 3), (8, 8))
        self.assertEqual([meets(box, other) for other in (box, inner, beside, cross, apart, corner)],
                         [True, True, False, True, False, True])
        self.assertEqual([within(box, other) for other in (box, inner, beside, cross, apart, corner)],
                         [True, False, False, False, False, False])
        self.assertEqual([within(other, box) for other in (box, inner, beside, cross, apart, corner)],
                         [True, True, False, False, False, False])
        self.assertEqual([common(box, other) for other in (box, inner, beside, cross, apart, corner)],
                         [box, inner, None, ((0, 1), (3, 2)), None, ((3, 3), (3, 3))])

    def test_apart_along_one_axis_alone(self):
        box = ((0, 0, 0), (2, 2, 2))
        for axis in range(3):
            for least, most in ((3, 4), (-4, -1)):
                low, high = [0, 0, 0], [2, 2, 2]
                low[axis], high[axis] = least, most
                other = (tuple(low), tuple(high))
                self.assertIs(meets(box, other), False)
                self.assertIs(meets(other, box), False)
                self.assertIs(within(box, other), False)
                self.assertIsNone(common(box, other))

    def test_far_boxes(self):
        one, other = ((-FAR, -FAR), (FAR, FAR)), ((FAR, -FAR - 5), (FAR + 7, 3))
        self.assertEqual(common(one, other), ((FAR, -FAR), (FAR, 3)))
        self.assertIs(meets(one, other), True)
        self.assertIs(within(other, one), False)
        self.assertIs(within(((FAR, 0), (FAR, 1)), one), True)

    def test_volume(self):
        for box in SQUARES + CUBES:
            self.assertEqual(volume(box), len(places_of(box)))
            self.assertIs(type(volume(box)), int)
        self.assertEqual(volume(((5, 5), (5, 5))), 1)
        self.assertEqual(volume(((-5, 5), (5, 5))), 11)
        self.assertEqual(volume(((-2, -3, -4), (2, 3, 4))), 315)
        self.assertEqual(volume(((-FAR, 0, 7), (FAR, 1, 9))), (2 * FAR + 1) * 6)
        self.assertEqual(volume(((0, 0, 0), (2 ** 60 - 1,) * 3)), 2 ** 180)


class Growing(Kinds):
    def test_by_nought(self):
        for box in (((0, 0), (0, 0)), ((1, 2), (5, 3)), ((0, 0), (7, 7)), ((7, 7, 7), (7, 7, 7)),
                    ((1, 0, 2), (1, 7, 3))):
            self.assertEqual(grown(box, 0, 3), box)

    def test_told_ones(self):
        box = ((2, 3), (4, 3))
        self.assertEqual(grown(box, 1, 3), ((1, 2), (5, 4)))
        self.assertEqual(grown(box, 2, 3), ((0, 1), (6, 5)))
        self.assertEqual(grown(box, 3, 3), ((0, 0), (7, 6)))
        self.assertEqual(grown(box, 4, 3), ((0, 0), (7, 7)))
        self.assertEqual(grown(box, 5, 3), ((0, 0), (7, 7)))
        self.assertEqual(grown(box, FAR, 3), ((0, 0), (7, 7)))
        self.assertEqual(grown(box, 1, 60), ((1, 2), (5, 4)))
        self.assertEqual(grown(((0, 1, 3), (0, 2, 3)), 1, 2), ((0, 0, 2), (1, 3, 3)))

    def test_at_level_0(self):
        for by in (0, 1, 5):
            self.assertEqual(grown(((0, 0), (0, 0)), by, 0), ((0, 0), (0, 0)))
            self.assertEqual(grown(((0, 0, 0), (0, 0, 0)), by, 0), ((0, 0, 0), (0, 0, 0)))

    def test_at_level_60(self):
        far = 2 ** 60 - 1
        self.assertEqual(grown(((far - 1, 1), (far - 1, far - 5)), 3, 60), ((far - 4, 0), (far, far - 2)))

    def test_holds_just_the_places_so_near(self):
        for dims, level in ((2, 2), (3, 1)):
            floor = sorted(itertools.product(range(2 ** level), repeat=dims))
            for low, high in itertools.product(floor, repeat=2):
                if any(least > most for least, most in zip(low, high)):
                    continue
                for by in range(5):
                    found = grown((low, high), by, level)
                    self.check_box(found, dims)
                    near = {place for place in floor if gap(place, (low, high)) <= by}
                    self.assertEqual(places_of(found), near)


class Gaps(unittest.TestCase):
    def test_told_ones(self):
        box = ((2, 3), (5, 3))
        wanted = {
            (2, 3): 0, (4, 3): 0, (5, 3): 0, (1, 3): 1, (6, 3): 1, (3, 2): 1, (3, 4): 1, (1, 2): 1, (6, 4): 1,
            (0, 3): 2, (9, 3): 4, (3, 9): 6, (9, 9): 6, (0, 0): 3, (-4, 3): 6, (-4, -7): 10, (8, 4): 3,
        }
        for place, distance in wanted.items():
            self.assertEqual(gap(place, box), distance, place)
            self.assertIs(type(gap(place, box)), int)
        self.assertEqual(gap((0, 0, 0), ((1, 2, 3), (4, 5, 6))), 3)
        self.assertEqual(gap((9, 9, 9), ((1, 2, 3), (4, 5, 6))), 5)
        self.assertEqual(gap((2, 2, 9), ((1, 2, 3), (4, 5, 6))), 3)
        self.assertEqual(gap((2, 3, 4), ((1, 2, 3), (4, 5, 6))), 0)

    def test_as_by_looking_at_the_places_of_the_box(self):
        for dims, boxes in ((2, SQUARES), (3, CUBES)):
            for box in boxes:
                lines = [range(least, most + 1) for least, most in zip(*box)]
                for place in itertools.product(range(-3, 5), repeat=dims):
                    apart = [min(abs(along - other) for other in line) for along, line in zip(place, lines)]
                    self.assertEqual(gap(place, box), max(apart))

    def test_far_places(self):
        self.assertEqual(gap((FAR, 0), ((0, 0), (1, 1))), FAR - 1)
        self.assertEqual(gap((0, -FAR), ((0, 0), (1, 1))), FAR)
        self.assertEqual(gap((0, 0), ((-FAR, -FAR), (FAR, FAR))), 0)


if __name__ == "__main__":
    unittest.main()
