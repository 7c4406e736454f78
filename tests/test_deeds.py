"""Point 35: deeds done in a yard, their answers, and their refusals."""

import itertools
import unittest

from curveyard.deeds import done
from curveyard.yard import Yard
from tests.samples import boxes_on, check_pages, cube, floor_of, hilbert, winding
from tests.yards import CURVES, FLAT, ROWS, PlainDeeds, deeds_of_all_kinds, laid

BOX, TWICE, THING, FLOOR = [("refused", word) for word in ("box", "twice", "thing", "floor")]
OK = ("ok",)
# Python itself does not write numbers of this length, so no refusal may try to.
HUGE = 10 ** 5000

# A yard of the curve hilbert at level 2; the numbers of its places, by rows from y 0 up to 3:
#   0  1 14 15
#   3  2 13 12
#   4  7  8 11
#   5  6  9 10
TOLD = (
    (("put", "mill", (1, 1), (2, 2)), OK),
    (("put", "barn", (0, 0), (1, 1)), OK),
    (("names",), ("names", ["barn", "mill"])),
    (("where", "mill"), ("box", (1, 1), (2, 2))),
    (("move", "mill", (1, 1), (3, 1)), OK),
    (("where", "mill"), ("box", (1, 1), (3, 1))),
    (("put", "ark", (3, 3), (3, 3)), OK),
    (("inside", (0, 0), (2, 3)), ("names", ["barn"])),
    (("meeting", (1, 1), (3, 3)), ("names", ["ark", "barn", "mill"])),
    (("inside", (0, 3), (2, 3)), ("names", [])),
    (("meeting", (0, 2), (2, 3)), ("names", [])),
    (("near", (1, 1), 3), ("near", [(0, "barn"), (0, "mill"), (2, "ark")])),
    (("near", (3, 2), 2), ("near", [(1, "ark"), (1, "mill")])),
    (("sharing",), ("pairs", [("barn", "mill")])),
    (("number", (2, 1)), ("number", 13)),
    (("place", 13), ("place", (2, 1))),
    (("spans", (1, 1), (2, 2)), ("spans", [(2, 2), (7, 8), (13, 13)])),
    (("cover", (1, 1), (2, 2), 3), ("spans", [(2, 2), (7, 8), (13, 13)])),
    (("cover", (1, 1), (2, 2), 2), ("spans", [(2, 2), (7, 13)])),
    (("cover", (1, 1), (2, 2), 1), ("spans", [(2, 13)])),
    (("take", "mill"), OK),
    (("take", "mill"), THING),
    (("names",), ("names", ["ark", "barn"])),
    (("sharing",), ("pairs", [])),
    (("put", "ark", (0, 0), (0, 0)), TWICE),
    (("put", "mill", (0, 0), (0, 4)), FLOOR),
    (("put", "mill", (1, 0), (0, 4)), BOX),
)


def beyond_each_axis(dims, level):
    """Places off a floor on one axis each, by one and by far."""
    found = []
    for axis, along in itertools.product(range(dims), (-1, 2 ** level, 2 ** level + 1, HUGE, -HUGE)):
        found.append((0,) * axis + (along,) + (0,) * (dims - axis - 1))
    return found


def bad_pairs(dims, level):
    """Pairs of places on a floor and beyond it, the low one beyond the high one along one axis or more."""
    low, high = floor_of(dims, level)
    found = [(high, low)] if level > 0 else []
    for axis in range(dims):
        found.append((low[:axis] + (1,) + low[axis + 1:], low))
        found.append((low[:axis] + (1,) + low[axis + 1:], high[:axis] + (0,) + high[axis + 1:]))
        found.append((low[:axis] + (2 ** level + 1,) + low[axis + 1:], high[:axis] + (2 ** level,) + high[axis + 1:]))
        found.append((low[:axis] + (-1,) + low[axis + 1:], high[:axis] + (-2,) + high[axis + 1:]))
        found.append((low[:axis] + (HUGE,) + low[axis + 1:], high))
    return found


def state_of(yard):
    """All that a yard tells, as plain values."""
    boxes = [(name, yard.where(name)) for name in yard.names()]
    return (yard.curve, yard.level, boxes, yard.sharing(), yard.store.listed(), yard.store.shape())


class Checked(unittest.TestCase):
    def check(self, yard, deed, wanted):
        answer = done(yard, deed)
        self.assertEqual(answer, wanted, (yard.curve.name, deed))
        self.check_kinds(answer)

    def check_kinds(self, answer):
        self.assertIs(type(answer), tuple)
        kinds = {"near": (int, str), "pairs": (str, str), "spans": (int, int)}
        if answer[0] == "names" or answer[0] in kinds:
            self.assertEqual((len(answer), type(answer[1])), (2, list))
            for thing in answer[1]:
                if answer[0] == "names":
                    self.assertIs(type(thing), str)
                else:
                    self.assertEqual((type(thing), tuple(map(type, thing))), (tuple, kinds[answer[0]]))

    def refused(self, yard, deed, wanted):
        """Refused so, the yard being as before."""
        before = state_of(yard)
        self.check(yard, deed, wanted)
        self.assertEqual(state_of(yard), before, deed)


class Answers(Checked):
    def test_told_ones(self):
        for size in (4, 5, 12):
            yard = Yard(hilbert(), 2, size)
            for deed, wanted in TOLD:
                self.check(yard, deed, wanted)

    def test_three_axes(self):
        yard = Yard(winding(), 1, 4)
        for deed, wanted in (
            (("put", "a", (0, 0, 0), (1, 0, 1)), OK),
            (("put", "b", (1, 1, 1), (1, 1, 1)), OK),
            (("where", "a"), ("box", (0, 0, 0), (1, 0, 1))),
            (("number", (0, 1, 0)), ("number", 3)),
            (("place", 6), ("place", (1, 0, 1))),
            (("spans", (0, 0, 0), (1, 0, 1)), ("spans", [(0, 1), (6, 7)])),
            (("cover", (0, 0, 0), (1, 0, 1), 1), ("spans", [(0, 7)])),
            (("near", (0, 1, 1), 9), ("near", [(1, "a"), (1, "b")])),
            (("sharing",), ("pairs", [])),
            (("move", "b", (1, 0, 1), (1, 1, 1)), OK),
            (("sharing",), ("pairs", [("a", "b")])),
            (("meeting", (0, 0, 0), (0, 1, 1)), ("names", ["a"])),
            (("inside", (1, 0, 0), (1, 1, 1)), ("names", ["b"])),
            (("take", "a"), OK),
            (("names",), ("names", ["b"])),
        ):
            self.check(yard, deed, wanted)

    def test_a_deed_changes_the_yard(self):
        for curve in CURVES:
            floor, corner = floor_of(curve.dims, 2), floor_of(curve.dims, 0)
            yard = Yard(curve, 2, 4)
            self.check(yard, ("put", "a") + floor, OK)
            self.assertEqual((yard.names(), yard.where("a")), (["a"], floor))
            self.assertEqual(yard.store.listed(), [(0, len(curve.parts) ** 2 - 1, "a")])
            self.check(yard, ("move", "a") + corner, OK)
            self.assertEqual((yard.names(), yard.where("a")), (["a"], corner))
            self.check(yard, ("put", "b") + floor, OK)
            self.check(yard, ("take", "a"), OK)
            self.assertEqual(yard.names(), ["b"])

    def test_an_empty_yard(self):
        for curve in CURVES:
            yard = Yard(curve, 2, 4)
            floor = floor_of(curve.dims, 2)
            for deed, wanted in (
                (("names",), ("names", [])), (("inside",) + floor, ("names", [])),
                (("meeting",) + floor, ("names", [])), (("near", floor[0], 5), ("near", [])),
                (("sharing",), ("pairs", [])),
            ):
                self.refused(yard, deed, wanted)

    def test_a_question_changes_nothing(self):
        for curve in CURVES:
            low, high = floor_of(curve.dims, 2)
            yard = laid(curve, 2, 4, {"a": (low, high), "b": (low, low), "c": (high, high)})
            for deed in (
                ("names",), ("where", "a"), ("inside", low, high), ("meeting", low, low), ("near", low, 2),
                ("sharing",), ("number", high), ("place", 1), ("spans", low, high), ("cover", low, high, 1),
            ):
                self.refused(yard, deed, done(yard, deed))

    def test_near_with_many_of_all_kinds(self):
        for curve in CURVES:
            low, high = floor_of(curve.dims, 2)
            yard = laid(curve, 2, 4, {"c": (high, high), "b": (low, high), "a": (low, low)})
            nearest = [(0, "b"), (0, "c"), (3, "a")]
            for many in (0, 1, 2, 3, 4, 999):
                self.check(yard, ("near", high, many), ("near", nearest[:many]))

    def test_every_number_and_place(self):
        for curve in CURVES:
            for level in range(3):
                yard, plain = Yard(curve, level, 4), PlainDeeds(curve, level)
                for number, place in enumerate(plain.places):
                    self.check(yard, ("number", place), ("number", number))
                    self.check(yard, ("place", number), ("place", place))
                    self.assertEqual({type(along) for along in done(yard, ("place", number))[1]}, {int})
                    self.assertIs(type(done(yard, ("number", place))[1]), int)

    def test_spans_and_cover_of_every_box(self):
        for curve in CURVES:
            level = 2 if curve.dims == 2 else 1
            yard, plain = Yard(curve, level, 4), PlainDeeds(curve, level)
            for box in boxes_on(curve.dims, level):
                spans = plain.spans(box)
                self.check(yard, ("spans",) + box, ("spans", spans))
                for many in range(1, len(spans) + 2):
                    self.check(yard, ("cover",) + box + (many,), ("spans", plain.cover(box, many)))

    def test_spans_and_cover_at_edges_and_of_the_whole_floor(self):
        for curve in CURVES:
            for level in range(7 if curve.dims == 2 else 5):
                yard, plain = Yard(curve, level, 4), PlainDeeds(curve, level)
                low, high = floor_of(curve.dims, level)
                last = len(curve.parts) ** level - 1
                for many in (1, 2, 999):
                    self.check(yard, ("spans", low, high), ("spans", [(0, last)]))
                    self.check(yard, ("cover", low, high, many), ("spans", [(0, last)]))
                for axis in range(curve.dims):
                    for box in (
                        (low, high[:axis] + (0,) + high[axis + 1:]),
                        (low[:axis] + high[axis:axis + 1] + low[axis + 1:], high), (low, low), (high, high),
                    ):
                        self.check(yard, ("spans",) + box, ("spans", plain.spans(box)))
                        for many in (1, 2, 5, 999):
                            self.check(yard, ("cover",) + box + (many,), ("spans", plain.cover(box, many)))

    def test_spans_of_things_that_are_not_there(self):
        yard = Yard(ROWS, 2, 4)
        self.check(yard, ("spans", (0, 0), (0, 0)), ("spans", [(0, 0)]))
        self.check(yard, ("cover", (0, 0), (1, 2), 1), ("spans", [(0, 6)]))
        self.assertEqual(yard.store.shape(), ("leaf", []))

    def test_each_answer_is_the_askers_own(self):
        for curve in CURVES:
            low, high = floor_of(curve.dims, 2)
            deeds = (
                ("names",), ("inside", low, high), ("meeting", low, high), ("near", low, 5), ("sharing",),
                ("spans", low, low), ("cover", low, high, 2),
            )
            yard = laid(curve, 2, 4, {"b": (low, high), "a": (low, high)})
            kept = [done(yard, deed) for deed in deeds]
            before = [done(yard, deed) for deed in deeds]
            for deed in deeds:
                done(yard, deed)[1].append("more")
            self.assertEqual([done(yard, deed) for deed in deeds], before)
            done(yard, ("take", "a"))
            done(yard, ("put", "c", low, high))
            self.assertEqual(kept, before)


class Refusals(Checked):
    def yards(self):
        """Yards with the things b and d, and the level of each."""
        for curve in CURVES:
            for level in (0, 2):
                low, high = floor_of(curve.dims, level)
                yield laid(curve, level, 4, {"b": (low, high), "d": (high, high)}), level

    def test_no_box_goes_first(self):
        for yard, level in self.yards():
            for low, high in bad_pairs(yard.curve.dims, level):
                for name in ("a", "b", "c", "d", "e"):
                    self.refused(yard, ("put", name, low, high), BOX)
                    self.refused(yard, ("move", name, low, high), BOX)
                for word in ("inside", "meeting", "spans"):
                    self.refused(yard, (word, low, high), BOX)
                for many in (1, 2, 999):
                    self.refused(yard, ("cover", low, high, many), BOX)

    def test_twice_goes_ahead_of_the_floor(self):
        for yard, level in self.yards():
            low, high = floor_of(yard.curve.dims, level)
            for name in ("b", "d"):
                self.refused(yard, ("put", name, low, high), TWICE)
                self.refused(yard, ("put", name, high, high), TWICE)
                for place in beyond_each_axis(yard.curve.dims, level):
                    self.refused(yard, ("put", name, place, place), TWICE)

    def test_thing_goes_ahead_of_the_floor(self):
        for yard, level in self.yards():
            low, high = floor_of(yard.curve.dims, level)
            for name in ("a", "c", "bb", "e"):
                self.refused(yard, ("take", name), THING)
                self.refused(yard, ("where", name), THING)
                self.refused(yard, ("move", name, low, high), THING)
                for place in beyond_each_axis(yard.curve.dims, level):
                    self.refused(yard, ("move", name, place, place), THING)

    def test_boxes_off_the_floor(self):
        for yard, level in self.yards():
            low, high = floor_of(yard.curve.dims, level)
            for place in beyond_each_axis(yard.curve.dims, level):
                pairs = [(place, place)]
                pairs += [(low, place)] if max(place) > 0 else [(place, high), (place, low)]
                for one, other in pairs:
                    self.refused(yard, ("put", "a", one, other), FLOOR)
                    self.refused(yard, ("put", "c", one, other), FLOOR)
                    self.refused(yard, ("move", "b", one, other), FLOOR)
                    self.refused(yard, ("move", "d", one, other), FLOOR)
                    for word in ("inside", "meeting", "spans"):
                        self.refused(yard, (word, one, other), FLOOR)
                    for many in (1, 999):
                        self.refused(yard, ("cover", one, other, many), FLOOR)

    def test_boxes_of_another_count_of_axes(self):
        for yard, level in self.yards():
            for count in (1, yard.curve.dims - 1, yard.curve.dims + 1):
                place = (0,) * count
                self.refused(yard, ("put", "a", place, place), FLOOR)
                self.refused(yard, ("put", "b", place, place), TWICE)
                self.refused(yard, ("move", "b", place, place), FLOOR)
                for word in ("inside", "meeting", "spans"):
                    self.refused(yard, (word, place, place), FLOOR)

    def test_places_and_numbers_off_the_floor(self):
        for yard, level in self.yards():
            for place in beyond_each_axis(yard.curve.dims, level):
                self.refused(yard, ("number", place), FLOOR)
                for many in (0, 1, 999):
                    self.refused(yard, ("near", place, many), FLOOR)
            full = len(yard.curve.parts) ** level
            for number in (full, full + 1, -1, HUGE, -HUGE, 10 ** 60 - 1):
                self.refused(yard, ("place", number), FLOOR)
            self.check(yard, ("number", done(yard, ("place", full - 1))[1]), ("number", full - 1))

    def test_a_name_again_behind_take(self):
        for curve in CURVES:
            low, high = floor_of(curve.dims, 2)
            yard = Yard(curve, 2, 4)
            for step in range(2):
                self.check(yard, ("put", "a", low, high), OK)
                self.refused(yard, ("put", "a", low, high), TWICE)
                self.check(yard, ("take", "a"), OK)
                self.refused(yard, ("take", "a"), THING)
                self.refused(yard, ("where", "a"), THING)
                self.refused(yard, ("move", "a", low, high), THING)

    def test_nothing_is_too_wide_for_a_yard(self):
        # 4096 places are all that these floors have; some levels beyond them nothing is refused either.
        for curve, levels in ((hilbert(), (6, 7)), (ROWS, (6, 7)), (winding(), (4, 5)), (cube(), (4, 5))):
            for level in levels:
                yard = Yard(curve, level, 4)
                low, high = floor_of(curve.dims, level)
                last = len(curve.parts) ** level - 1
                self.check(yard, ("spans", low, high), ("spans", [(0, last)]))
                self.check(yard, ("cover", low, high, 1), ("spans", [(0, last)]))
                self.check(yard, ("put", "a", low, high), OK)
                self.check(yard, ("meeting", low, high), ("names", ["a"]))
                self.check(yard, ("inside", low, high), ("names", ["a"]))
                self.check(yard, ("take", "a"), OK)


class ManyDeeds(Checked):
    def check_deeds(self, curve, level, count, salt, reach):
        seen = set()
        for size in (4, 11):
            yard, plain = Yard(curve, level, size), PlainDeeds(curve, level)
            for deed in deeds_of_all_kinds(curve.dims, level, count, salt, reach):
                wanted = plain.done(deed)
                self.check(yard, deed, wanted)
                seen.add((deed[0], wanted[1] if wanted[0] == "refused" else wanted[0]))
            check_pages(self, yard.store.shape(), size)
        return seen

    def test_as_plainly_found(self):
        for salt, curve in enumerate(CURVES):
            level = 3 if curve in FLAT else 2
            seen = self.check_deeds(curve, level, 600, salt + 50, 5)
            self.assertLessEqual({
                ("put", "ok"), ("put", "box"), ("put", "twice"), ("put", "floor"), ("move", "ok"), ("move", "box"),
                ("move", "thing"), ("move", "floor"), ("take", "ok"), ("take", "thing"), ("where", "box"),
                ("where", "thing"), ("names", "names"), ("inside", "names"), ("inside", "box"), ("inside", "floor"),
                ("meeting", "names"), ("meeting", "box"), ("meeting", "floor"), ("near", "near"), ("near", "floor"),
                ("sharing", "pairs"), ("number", "number"), ("number", "floor"), ("place", "place"), ("place", "floor"),
                ("spans", "spans"), ("spans", "box"), ("spans", "floor"), ("cover", "spans"), ("cover", "box"),
                ("cover", "floor"),
            }, seen)

    def test_at_the_least_and_the_greatest_levels(self):
        for salt, curve in enumerate(CURVES):
            self.check_deeds(curve, 0, 60, salt + 80, 2)
            self.check_deeds(curve, 6 if curve.dims == 2 else 4, 60, salt + 90, 12)


if __name__ == "__main__":
    unittest.main()
