"""Points 28 to 34: the yard, its deeds and its questions."""

import itertools
import unittest

from curveyard.errors import NoThing, OffFloor, Twice
from curveyard.store import Store
from curveyard.stretches import stretches
from curveyard.yard import Yard
from tests.samples import (
    box_along, boxes_beyond, boxes_on, check_pages, entry_order, floor_of, hilbert, places_of, scattered, told,
)
from tests.yards import CURVES, DEEP, FLAT, NAMES, ROWS, Plain, laid, some_boxes

def answer_of(yard, deed):
    """What a yard answers to a deed, or the class of its refusal."""
    method, *values = deed
    try:
        answer = getattr(yard, method)(*values)
    except (Twice, NoThing, OffFloor) as error:
        return type(error)
    return None if method in ("put", "move", "take") else answer


def some_deeds(dims, level, count, salt, reach):
    """Scattered deeds and questions of all kinds, some of which are refused."""
    boxes = some_boxes(dims, level, count, salt, reach)
    kinds = scattered(count, 10, salt + 1)
    names = [NAMES[at] for at in scattered(count, len(NAMES), salt + 2)]
    many = scattered(count, 17, salt + 3)
    deeds = []
    for kind, name, box, number in zip(kinds, names, boxes, many):
        deeds.append((
            ("put", name, box), ("put", name, box), ("move", name, box), ("take", name), ("where", name), ("names",),
            ("inside", box), ("meeting", box), ("nearest", box[1], number), ("sharing",),
        )[kind])
    return deeds


class Checked(unittest.TestCase):
    def check_yard(self, yard, size, boxes):
        """That just these things stand in a yard, and in its store just the stretches of their boxes."""
        wanted = []
        for name, box in boxes.items():
            wanted += [(first, last, name) for first, last in stretches(yard.curve, yard.level, box)]
        self.assertEqual(yard.store.listed(), sorted(wanted, key=entry_order))
        self.assertEqual(check_pages(self, yard.store.shape(), size), yard.store.listed())
        self.assertEqual(yard.names(), sorted(boxes))
        self.assertEqual({name: yard.where(name) for name in boxes}, boxes)

    def refused(self, error, yard, method, *values):
        names = yard.names()
        before = (names, [yard.where(name) for name in names], yard.store.listed(), yard.store.shape())
        with self.assertRaises(error, msg=(method, values)) as caught:
            getattr(yard, method)(*values)
        self.assertIs(type(caught.exception), error)
        self.assertEqual(yard.names(), names)
        self.assertEqual((yard.names(), [yard.where(name) for name in names], yard.store.listed(), yard.store.shape()),
                         before)


class Deeds(Checked):
    def test_a_new_yard(self):
        for curve in CURVES:
            for level, size in ((0, 4), (2, 5), (4, 12)):
                yard = Yard(curve, level, size)
                self.assertIs(yard.curve, curve)
                self.assertEqual(yard.level, level)
                self.assertIs(type(yard.store), Store)
                self.assertEqual(yard.store.shape(), ("leaf", []))
                self.assertEqual((yard.names(), yard.sharing()), ([], []))
                self.assertEqual(yard.meeting(floor_of(curve.dims, level)), [])
                self.assertEqual(yard.inside(floor_of(curve.dims, level)), [])
                self.assertEqual(yard.nearest((0,) * curve.dims, 9), [])

    def test_told_ones(self):
        yard = Yard(hilbert(), 2, 4)
        yard.put("mill", ((1, 1), (2, 2)))
        self.assertEqual(yard.store.listed(), [(2, 2, "mill"), (7, 8, "mill"), (13, 13, "mill")])
        yard.put("barn", ((0, 0), (1, 1)))
        self.assertEqual(yard.store.shape(), ("leaf", [
            (0, 3, "barn"), (2, 2, "mill"), (7, 8, "mill"), (13, 13, "mill"),
        ]))
        yard.put("all", ((0, 0), (3, 3)))
        self.assertEqual(yard.store.listed(), [
            (0, 15, "all"), (0, 3, "barn"), (2, 2, "mill"), (7, 8, "mill"), (13, 13, "mill"),
        ])
        yard.move("mill", ((0, 3), (1, 3)))
        self.assertEqual(yard.where("mill"), ((0, 3), (1, 3)))
        self.assertEqual(yard.store.listed(), [(0, 15, "all"), (0, 3, "barn"), (5, 6, "mill")])
        self.assertEqual(yard.sharing(), [("all", "barn"), ("all", "mill")])
        yard.take("all")
        self.assertEqual(yard.names(), ["barn", "mill"])
        self.assertEqual(yard.sharing(), [])

    def test_the_page_size_is_that_of_the_store(self):
        for size in range(4, 13):
            yard = Yard(ROWS, 4, size)
            for number in range(size):
                yard.put("abcdefghijkl"[number], ((number, 0), (number, 0)))
            self.assertEqual(yard.store.shape()[0], "leaf")
            yard.put("more", ((15, 15), (15, 15)))
            self.assertEqual(yard.store.shape()[0], "branch")

    def test_the_store_behind_every_deed(self):
        for salt, curve in enumerate(CURVES):
            level = 5 if curve.dims == 2 else 3
            for size in (4, 7, 12):
                boxes = iter(some_boxes(curve.dims, level, 600, salt + size, 9))
                onto = (box for box in boxes if Plain(curve.dims, level).on_floor(box))
                yard, kept = Yard(curve, level, size), {}
                for name in NAMES + NAMES[::2] + NAMES[::-1]:
                    if name not in kept:
                        kept[name] = next(onto)
                        yard.put(name, kept[name])
                    elif len(name) == 1:
                        yard.take(name)
                        kept.pop(name)
                    else:
                        kept[name] = next(onto)
                        yard.move(name, kept[name])
                    self.check_yard(yard, size, kept)
                for name in sorted(kept):
                    yard.take(name)
                    kept.pop(name)
                    self.check_yard(yard, size, kept)
                self.assertEqual(yard.store.shape(), ("leaf", []))

    def test_put_is_refused(self):
        for curve in CURVES:
            for level in (0, 1, 3):
                there = {"b": floor_of(curve.dims, level), "d": ((0,) * curve.dims, (0,) * curve.dims)}
                yard = laid(curve, level, 4, there)
                for box in list(there.values()) + boxes_beyond(curve.dims, level):
                    self.refused(Twice, yard, "put", "b", box)
                    self.refused(Twice, yard, "put", "d", box)
                for box in boxes_beyond(curve.dims, level):
                    for name in ("a", "c", "bb"):
                        self.refused(OffFloor, yard, "put", name, box)
                yard.put("c", there["d"])
                self.check_yard(yard, 4, dict(there, c=there["d"]))

    def test_move_is_refused(self):
        for curve in CURVES:
            for level in (0, 1, 3):
                there = {"b": floor_of(curve.dims, level), "d": ((0,) * curve.dims, (0,) * curve.dims)}
                yard = laid(curve, level, 4, there)
                for box in list(there.values()) + boxes_beyond(curve.dims, level):
                    for name in ("a", "c", "bb"):
                        self.refused(NoThing, yard, "move", name, box)
                for box in boxes_beyond(curve.dims, level):
                    self.refused(OffFloor, yard, "move", "b", box)
                    self.refused(OffFloor, yard, "move", "d", box)
                self.check_yard(yard, 4, there)

    def test_take_and_where_are_refused(self):
        for curve in CURVES:
            yard = Yard(curve, 2, 4)
            self.refused(NoThing, yard, "take", "a")
            self.refused(NoThing, yard, "where", "a")
            yard.put("b", floor_of(curve.dims, 1))
            for name in ("a", "bb", "c"):
                self.refused(NoThing, yard, "take", name)
                self.refused(NoThing, yard, "where", name)
            yard.take("b")
            self.refused(NoThing, yard, "take", "b")
            self.refused(NoThing, yard, "where", "b")
            self.refused(NoThing, yard, "move", "b", floor_of(curve.dims, 1))

    def test_a_name_is_free_again_when_its_thing_is_taken(self):
        for curve in CURVES:
            yard = laid(curve, 2, 4, {"a": floor_of(curve.dims, 2)})
            yard.take("a")
            self.check_yard(yard, 4, {})
            yard.put("a", floor_of(curve.dims, 1))
            self.check_yard(yard, 4, {"a": floor_of(curve.dims, 1)})

    def test_move_to_the_same_box(self):
        for curve in CURVES:
            there = {"a": ((1,) * curve.dims, (2,) * curve.dims), "b": floor_of(curve.dims, 2)}
            yard = laid(curve, 2, 4, there)
            for name in there:
                yard.move(name, there[name])
                self.check_yard(yard, 4, there)

    def test_move_to_a_box_that_shares_places(self):
        for curve in CURVES:
            there = {"a": ((0,) * curve.dims, (2,) * curve.dims), "b": ((1,) * curve.dims, (3,) * curve.dims)}
            yard = laid(curve, 2, 4, there)
            for box in (floor_of(curve.dims, 2), ((1,) * curve.dims, (1,) * curve.dims), there["b"], there["a"]):
                there["a"] = box
                yard.move("a", box)
                self.check_yard(yard, 4, there)

    def test_things_with_the_same_box(self):
        for curve in CURVES:
            box = ((1,) * curve.dims, (2,) * curve.dims)
            there = {name: box for name in NAMES}
            yard = laid(curve, 2, 4, there)
            self.check_yard(yard, 4, there)
            yard.take("b")
            there.pop("b")
            self.check_yard(yard, 4, there)

    def test_a_thing_that_fills_the_floor(self):
        for curve in CURVES:
            for level in range(7 if curve.dims == 2 else 5):
                yard = laid(curve, level, 4, {"all": floor_of(curve.dims, level)})
                self.assertEqual(yard.store.listed(), [(0, len(curve.parts) ** level - 1, "all")])

    def test_level_0(self):
        for curve in CURVES:
            place = (0,) * curve.dims
            there = {name: (place, place) for name in NAMES}
            yard = laid(curve, 0, 4, there)
            self.assertEqual(yard.store.listed(), [(0, 0, name) for name in sorted(NAMES)])
            self.check_yard(yard, 4, there)
            self.assertEqual(yard.inside((place, place)), sorted(NAMES))
            self.assertEqual(yard.meeting((place, place)), sorted(NAMES))
            self.assertEqual(yard.nearest(place, 2), [(0, "a"), (0, "aa")])
            self.assertEqual(yard.sharing(), list(itertools.combinations(sorted(NAMES), 2)))

    def test_the_greatest_levels(self):
        for curve in CURVES:
            level = 6 if curve.dims == 2 else 4
            end = 2 ** level - 1
            low, high = floor_of(curve.dims, level)
            there = {
                "all": (low, high), "first": (low, low), "last": (high, high),
                "most": (tuple(along + 1 for along in low), high),
                "line": (low, (end,) + low[1:]), "odd": ((3,) * curve.dims, (end - 2,) * curve.dims),
            }
            yard = laid(curve, level, 5, there)
            self.check_yard(yard, 5, there)
            self.assertEqual(yard.inside((low, high)), sorted(there))
            self.assertEqual(yard.meeting((high, high)), ["all", "last", "most"])
            self.assertEqual(yard.nearest(high, 4), [(0, "all"), (0, "last"), (0, "most"), (2, "odd")])
            for box in boxes_beyond(curve.dims, level):
                self.refused(OffFloor, yard, "put", "beyond", box)
            yard.move("all", there["odd"])
            yard.take("most")
            there["all"] = there["odd"]
            there.pop("most")
            self.check_yard(yard, 5, there)

    def test_somewhat_greater_levels_are_not_refused(self):
        for curve in CURVES:
            level = 7 if curve.dims == 2 else 5
            low, high = floor_of(curve.dims, level)
            yard = laid(curve, level, 4, {"all": (low, high), "last": (high, high)})
            self.assertEqual(yard.store.listed(), [
                (0, len(curve.parts) ** level - 1, "all"), stretches(curve, level, (high, high))[0] + ("last",),
            ])
            self.assertEqual(yard.inside((low, high)), ["all", "last"])
            yard.move("all", (low, low))
            self.check_yard(yard, 4, {"all": (low, low), "last": (high, high)})

    def test_what_is_handed_in_stays(self):
        for curve in CURVES:
            before = told(curve)
            box = ((1,) * curve.dims, (2,) * curve.dims)
            yard = laid(curve, 2, 4, {"a": box})
            yard.move("a", floor_of(curve.dims, 1))
            yard.meeting(box)
            yard.take("a")
            self.assertEqual(told(curve), before)
            self.assertEqual(box, ((1,) * curve.dims, (2,) * curve.dims))

    def test_yards_stand_apart(self):
        curve = hilbert()
        one, other = Yard(curve, 2, 4), Yard(curve, 2, 4)
        one.put("a", ((0, 0), (1, 1)))
        self.check_yard(other, 4, {})
        other.put("a", ((2, 2), (2, 2)))
        self.check_yard(one, 4, {"a": ((0, 0), (1, 1))})
        one.take("a")
        self.check_yard(other, 4, {"a": ((2, 2), (2, 2))})


class Questions(Checked):
    def test_where_tells_the_box(self):
        for curve in CURVES:
            yard = Yard(curve, 2, 4)
            for box in boxes_on(curve.dims, 2)[::7]:
                yard.put("a", box)
                self.assertEqual(yard.where("a"), box)
                self.assertIs(type(yard.where("a")), tuple)
                yard.take("a")

    def test_names_are_sorted(self):
        yard = laid(hilbert(), 3, 4, {name: ((at % 8, 0), (at % 8, 0)) for at, name in enumerate(NAMES)})
        self.assertEqual(yard.names(), [
            "a", "aa", "ab", "b", "ba", "c", "k", "m", "x", "y", "yar", "yard", "zzzzzzzzzzzz",
        ])

    def test_inside_and_meeting_of_told_boxes(self):
        for curve in FLAT:
            yard = laid(curve, 3, 4, {
                "z": ((2, 2), (4, 4)), "m": ((5, 2), (5, 2)), "aa": ((0, 0), (7, 7)), "b": ((2, 5), (4, 5)),
            })
            for box, inside, meeting in (
                (((0, 0), (7, 7)), ["aa", "b", "m", "z"], ["aa", "b", "m", "z"]),
                (((2, 2), (4, 4)), ["z"], ["aa", "z"]),
                (((2, 2), (5, 4)), ["m", "z"], ["aa", "m", "z"]),
                (((3, 2), (5, 5)), ["m"], ["aa", "b", "m", "z"]),
                (((2, 2), (3, 4)), [], ["aa", "z"]),
                (((2, 3), (4, 4)), [], ["aa", "z"]),
                (((4, 4), (4, 4)), [], ["aa", "z"]),
                (((5, 2), (5, 2)), ["m"], ["aa", "m"]),
                (((5, 3), (7, 7)), [], ["aa"]),
                (((0, 0), (1, 1)), [], ["aa"]),
                (((0, 0), (2, 2)), [], ["aa", "z"]),
                (((1, 1), (5, 5)), ["b", "m", "z"], ["aa", "b", "m", "z"]),
            ):
                self.assertEqual(yard.inside(box), inside, (curve.name, box))
                self.assertEqual(yard.meeting(box), meeting, (curve.name, box))

    def test_boxes_that_touch_or_miss_by_one_place(self):
        for curve in CURVES:
            dims = curve.dims
            yard = laid(curve, 3, 4, {"a": ((2,) * dims, (5,) * dims)})
            for axis, (least, most) in itertools.product(range(dims), ((0, 1), (0, 2), (5, 7), (6, 7))):
                lines = [(0, 7)] * dims
                lines[axis] = (least, most)
                met = ["a"] if (least, most) in ((0, 2), (5, 7)) else []
                self.assertEqual(yard.meeting(box_along(lines)), met)
                self.assertEqual(yard.inside(box_along(lines)), [])
            for axis, (least, most) in itertools.product(range(dims), ((1, 6), (2, 5), (3, 5), (2, 4))):
                lines = [(2, 5)] * dims
                lines[axis] = (least, most)
                held = ["a"] if least <= 2 and most >= 5 else []
                self.assertEqual(yard.meeting(box_along(lines)), ["a"])
                self.assertEqual(yard.inside(box_along(lines)), held)

    def test_inside_and_meeting_of_every_box(self):
        for salt, curve in enumerate(CURVES):
            level = 3 if curve.dims == 2 else 2
            yard, plain = Yard(curve, level, 4), Plain(curve.dims, level)
            for name, box in zip(NAMES, some_boxes(curve.dims, level, len(NAMES), salt + 5, 4)):
                answer_of(yard, ("put", name, box))
                plain.put(name, box)
            for box in boxes_on(curve.dims, level)[::3]:
                self.assertEqual(yard.inside(box), plain.inside(box), (curve.name, box))
                self.assertEqual(yard.meeting(box), plain.meeting(box), (curve.name, box))

    def test_inside_and_meeting_are_refused(self):
        for curve in CURVES:
            for level in (0, 3):
                for there in ({}, {"a": floor_of(curve.dims, level)}):
                    yard = laid(curve, level, 4, there)
                    for box in boxes_beyond(curve.dims, level):
                        self.refused(OffFloor, yard, "inside", box)
                        self.refused(OffFloor, yard, "meeting", box)

    def test_nearest_of_told_places(self):
        for curve in FLAT:
            yard = laid(curve, 3, 4, {
                "z": ((2, 2), (4, 4)), "m": ((6, 2), (6, 2)), "b": ((2, 6), (4, 7)), "aa": ((4, 4), (5, 4)),
            })
            self.assertEqual(yard.nearest((3, 3), 9), [(0, "z"), (1, "aa"), (3, "b"), (3, "m")])
            self.assertEqual(yard.nearest((4, 4), 9), [(0, "aa"), (0, "z"), (2, "b"), (2, "m")])
            self.assertEqual(yard.nearest((0, 0), 9), [(2, "z"), (4, "aa"), (6, "b"), (6, "m")])
            self.assertEqual(yard.nearest((7, 7), 9), [(3, "aa"), (3, "b"), (3, "z"), (5, "m")])
            self.assertEqual(yard.nearest((5, 3), 9), [(1, "aa"), (1, "m"), (1, "z"), (3, "b")])
            for many in range(7):
                self.assertEqual(yard.nearest((5, 3), many), [(1, "aa"), (1, "m"), (1, "z"), (3, "b")][:many])

    def test_nearest_of_three_axes(self):
        for curve in DEEP:
            yard = laid(curve, 2, 4, {"a": ((0, 0, 0), (3, 0, 0)), "b": ((2, 2, 2), (3, 3, 3))})
            self.assertEqual(yard.nearest((0, 0, 0), 2), [(0, "a"), (2, "b")])
            self.assertEqual(yard.nearest((1, 1, 1), 2), [(1, "a"), (1, "b")])
            self.assertEqual(yard.nearest((0, 1, 3), 2), [(2, "b"), (3, "a")])
            self.assertEqual(yard.nearest((0, 1, 3), 1), [(2, "b")])

    def test_nearest_is_refused(self):
        for curve in CURVES:
            for level in (0, 3):
                for there in ({}, {"a": floor_of(curve.dims, level)}):
                    yard = laid(curve, level, 4, there)
                    for many, axis, along in itertools.product((0, 1, 9), range(curve.dims), (-1, 2 ** level)):
                        place = (0,) * axis + (along,) + (0,) * (curve.dims - axis - 1)
                        self.refused(OffFloor, yard, "nearest", place, many)
                    for count in (1, curve.dims - 1, curve.dims + 1):
                        self.refused(OffFloor, yard, "nearest", (0,) * count, 1)

    def test_sharing(self):
        for curve in FLAT:
            boxes = {"d": ((0, 0), (2, 2)), "c": ((2, 2), (3, 3)), "b": ((4, 4), (5, 5)), "a": ((4, 0), (4, 3))}
            yard = laid(curve, 3, 4, boxes)
            self.assertEqual(yard.sharing(), [("c", "d")])
            yard.move("a", ((3, 0), (3, 2)))
            self.assertEqual(yard.sharing(), [("a", "c"), ("c", "d")])
            yard.put("bb", ((0, 0), (7, 7)))
            self.assertEqual(yard.sharing(), [
                ("a", "bb"), ("a", "c"), ("b", "bb"), ("bb", "c"), ("bb", "d"), ("c", "d"),
            ])
            yard.put("e", ((0, 0), (7, 7)))
            self.assertEqual(yard.sharing(), [
                ("a", "bb"), ("a", "c"), ("a", "e"), ("b", "bb"), ("b", "e"), ("bb", "c"), ("bb", "d"), ("bb", "e"),
                ("c", "d"), ("c", "e"), ("d", "e"),
            ])

    def test_sharing_none(self):
        for curve in CURVES:
            level = 2
            yard = Yard(curve, level, 4)
            # Things that stand side by side all over the floor share nothing.
            for at, place in enumerate(sorted(places_of(floor_of(curve.dims, level)))[:20]):
                yard.put("abcdefghijklmnopqrstuvwxyz"[at], (place, place))
                self.assertEqual(yard.sharing(), [])

    def test_kinds(self):
        for curve in CURVES:
            floor = floor_of(curve.dims, 2)
            yard = laid(curve, 2, 4, {"b": floor, "a": floor})
            for found in (yard.names(), yard.inside(floor), yard.meeting(floor)):
                self.assertEqual((type(found), found), (list, ["a", "b"]))
            for found in (yard.nearest((0,) * curve.dims, 2), yard.sharing()):
                self.assertIs(type(found), list)
                self.assertTrue(all(type(pair) is tuple for pair in found))
            self.assertTrue(all(type(distance) is int for distance, name in yard.nearest((3,) * curve.dims, 2)))

    def test_each_answer_is_the_askers_own(self):
        for curve in CURVES:
            floor = floor_of(curve.dims, 2)

            def ask():
                return (yard.names(), yard.inside(floor), yard.meeting(floor), yard.nearest((0,) * curve.dims, 3),
                        yard.sharing(), yard.store.listed())

            yard = laid(curve, 2, 4, {"b": floor, "a": floor, "c": ((1,) * curve.dims, (2,) * curve.dims)})
            answers, before = ask(), ask()
            yard.take("a")
            yard.move("b", ((1,) * curve.dims, (1,) * curve.dims))
            yard.put("d", floor)
            self.assertEqual(answers, before)
            before = ask()
            for answer in answers + ask():
                answer.clear()
                answer.append("more")
            self.assertEqual(ask(), before)
            self.check_yard(yard, 4, {
                "b": ((1,) * curve.dims,) * 2, "c": ((1,) * curve.dims, (2,) * curve.dims), "d": floor,
            })


class Alike(Checked):
    """Point 33, and point 2: questions are answered as by looking at all things one by one."""

    def check_alike(self, curves, level, count, salt, reach):
        """Answers which answers and refusals came of which method."""
        dims = curves[0].dims
        plain = Plain(dims, level)
        yards = [(Yard(curve, level, size), size) for curve in curves for size in (4, 5, 12)]
        seen = set()
        for deed in some_deeds(dims, level, count, salt, reach):
            method, *values = deed
            wanted = getattr(plain, method)(*values)
            seen.add((method, wanted if isinstance(wanted, type) else bool(wanted)))
            for yard, size in yards:
                self.assertEqual(answer_of(yard, deed), wanted, (yard.curve.name, size, deed))
        for yard, size in yards:
            self.check_yard(yard, size, plain.boxes)
        return seen

    def check_seen(self, seen):
        """That the deeds led to every refusal, and each question to an answer that tells something."""
        self.assertLessEqual({
            ("put", Twice), ("put", OffFloor), ("move", NoThing), ("move", OffFloor), ("take", NoThing),
            ("where", NoThing), ("inside", OffFloor), ("meeting", OffFloor), ("nearest", OffFloor),
            ("put", False), ("move", False), ("take", False), ("where", True), ("names", True), ("inside", True),
            ("meeting", True), ("nearest", True), ("sharing", True),
        }, seen)

    def test_two_axes(self):
        self.check_alike(FLAT, 0, 60, 3, 2)
        self.check_alike(FLAT, 2, 150, 4, 4)
        self.check_seen(self.check_alike(FLAT, 4, 400, 5, 9))
        self.check_alike(FLAT, 6, 80, 6, 20)

    def test_three_axes(self):
        self.check_alike(DEEP, 1, 80, 7, 2)
        self.check_seen(self.check_alike(DEEP, 2, 400, 8, 3))
        self.check_alike(DEEP, 4, 80, 9, 7)


if __name__ == "__main__":
    unittest.main()
