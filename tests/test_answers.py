"""Point 39: scenes that are done; and points 2 and 33 through texts and their answers."""

import itertools
import unittest

from curveyard.answers import answers, run
from curveyard.curves import Curve
from curveyard.curvetext import curve_text
from curveyard.errors import BadRow, CornerTwice
from curveyard.scenetext import Scene, scene_of, scene_text
from tests.rows import CUBE, HILBERT, WINDING, RefusedRows, with_row
from tests.samples import (
    REFUSED_WITH, UNMET, box_along, boxes_on, floor_of, hilbert, lain, meeting_curves, one_step, places_of, told,
)
from tests.yards import CURVES, DEEP, FLAT, PlainDeeds, deeds_of_all_kinds

HEAD = "\n".join(HILBERT) + "\nfloor 3 4"

# The rows of deeds with those of their answers, on the curve hilbert at level 3.
TOLD = (
    ("names", "none"), ("sharing", "none"), ("near 0,0 5", "none"), ("inside 0,0 7,7", "none"),
    ("meeting 0,0 7,7", "none"), ("where mill", "refused thing"), ("take mill", "refused thing"),
    ("put mill 0,0 3,3", "ok"), ("put barn 3,2 4,5", "ok"), ("put well 7,7 7,7", "ok"),
    ("move well 6,1 6,1", "ok"), ("names", "barn mill well"), ("where well", "6,1 6,1"),
    ("where mill", "0,0 3,3"), ("inside 0,0 3,7", "mill"), ("meeting 0,3 7,3", "barn mill"),
    ("meeting 7,7 7,7", "none"), ("near 5,0 2", "1 well 2 barn"), ("near 5,0 1", "1 well"),
    ("near 5,0 999", "1 well 2 barn 2 mill"), ("sharing", "barn mill"), ("number 0,6", "20"), ("place 20", "0,6"),
    ("spans 1,1 2,4", "2-2 7-8 11-13 17-17 30-30"), ("cover 1,1 2,4 2", "2-17 30-30"), ("cover 1,1 2,4 1", "2-30"),
    ("cover 1,1 2,4 999", "2-2 7-8 11-13 17-17 30-30"), ("spans 0,0 7,7", "0-63"), ("cover 0,0 7,7 1", "0-63"),
    ("put mill 1,0 0,0", "refused box"), ("put new 0,9 0,8", "refused box"), ("put mill 0,0 8,8", "refused twice"),
    ("put new 0,0 8,0", "refused floor"), ("move new 0,0 8,0", "refused thing"),
    ("move mill 0,0 0,8", "refused floor"), ("move mill 0,1 0,0", "refused box"), ("near 8,0 1", "refused floor"),
    ("number 0,8", "refused floor"), ("place 64", "refused floor"), ("place " + "9" * 60, "refused floor"),
    ("inside 0,0 0,8", "refused floor"), ("inside 1,1 1,0", "refused box"), ("meeting 8,8 8,8", "refused floor"),
    ("spans 0,0 8,7", "refused floor"), ("spans 8,0 7,7", "refused box"), ("cover 0,0 7,8 1", "refused floor"),
    ("cover 1,0 0,0 1", "refused box"), ("put ark 4,4 5,5", "ok"), ("put all 0,0 7,7", "ok"),
    ("sharing", "all ark, all barn, all mill, all well, ark barn, barn mill"), ("take barn", "ok"),
    ("names", "all ark mill well"), ("sharing", "all ark, all mill, all well"), ("take all", "ok"),
    ("sharing", "none"),
)

# Deeds that are answered alike whatever the curve is.
ALIKE = ("put", "move", "take", "names", "where", "inside", "meeting", "near", "sharing")


def written(value):
    return ",".join(map(str, value)) if isinstance(value, tuple) else str(value)


def text_with(curve, level, size, deeds):
    rows = [" ".join(map(written, deed)) for deed in deeds]
    return "\n".join([curve_text(curve), f"floor {level} {size}"] + rows)


def rows_of(curve, level, size, deeds):
    """The rows of the answers to a text with these deeds, one for each."""
    text = answers(text_with(curve, level, size, deeds))
    return text.split("\n") if deeds else []


def plain_row(answer):
    """The row of an answer, written in another way than the program does."""
    if answer[0] in ("ok", "refused"):
        return " ".join(answer)
    if answer[0] == "box":
        return written(answer[1]) + " " + written(answer[2])
    if not isinstance(answer[1], list):
        return written(answer[1])
    between, within = {"names": (" ", ""), "near": (" ", " "), "pairs": (", ", " "), "spans": (" ", "-")}[answer[0]]
    return between.join(within.join(map(str, thing)) for thing in answer[1]) or "none"


def told_numbers(row):
    """The stretches of a row, and all numbers in them."""
    spans = [tuple(map(int, span.split("-"))) for span in row.split(" ")]
    return spans, [number for first, last in spans for number in range(first, last + 1)]


class Run(unittest.TestCase):
    def test_told_ones(self):
        scene = Scene(hilbert(), 2, 4, [
            ("put", "a", (0, 0), (1, 1)), ("put", "a", (0, 0), (1, 1)), ("names",), ("where", "a"),
            ("near", (3, 3), 0), ("near", (3, 3), 1), ("number", (1, 0)), ("spans", (0, 0), (2, 0)), ("sharing",),
            ("take", "a"), ("names",),
        ])
        self.assertEqual(run(scene), [
            ("ok",), ("refused", "twice"), ("names", ["a"]), ("box", (0, 0), (1, 1)), ("near", []),
            ("near", [(2, "a")]), ("number", 1), ("spans", [(0, 1), (14, 14)]), ("pairs", []), ("ok",), ("names", []),
        ])

    def test_no_deed(self):
        for curve in CURVES:
            self.assertEqual(run(Scene(curve, 2, 4, [])), [])

    def test_kinds(self):
        for curve in CURVES:
            found = run(Scene(curve, 2, 4, deeds_of_all_kinds(curve.dims, 2, 50, 7, 3)))
            self.assertIs(type(found), list)
            self.assertEqual({type(answer) for answer in found}, {tuple})

    def test_twice_tells_the_same_and_leaves_the_scene(self):
        for salt, curve in enumerate(CURVES):
            deeds = deeds_of_all_kinds(curve.dims, 2, 120, salt + 200, 4)
            scene = Scene(curve, 2, 5, deeds)
            before = (told(scene.curve), scene.level, scene.size, list(scene.deeds), scene_text(scene))
            first = run(scene)
            kept = run(scene)
            self.assertEqual(first, kept)
            for answer in first:
                for value in answer:
                    if isinstance(value, list):
                        value.append("more")
            first.clear()
            self.assertEqual(run(scene), kept)
            self.assertIs(scene.curve, curve)
            self.assertEqual((told(scene.curve), scene.level, scene.size, list(scene.deeds), scene_text(scene)), before)

    def test_deeds_are_done_in_their_order(self):
        put, take = ("put", "a", (0, 0), (0, 0)), ("take", "a")
        for deeds, wanted in (
            ([put, take, put], ["ok", "ok", "ok"]), ([take, put, put], ["refused", "ok", "refused"]),
            ([put, put, take], ["ok", "refused", "ok"]), ([take, take, put], ["refused", "refused", "ok"]),
        ):
            self.assertEqual([answer[0] for answer in run(Scene(hilbert(), 0, 4, deeds))], wanted)

    def test_the_list_that_a_scene_was_made_of(self):
        deeds = [("names",)]
        scene = Scene(hilbert(), 2, 4, deeds)
        deeds.append(("sharing",))
        self.assertEqual(run(scene), [("names", [])])

    def test_as_plainly_found(self):
        for salt, curve in enumerate(CURVES):
            level = 3 if curve.dims == 2 else 2
            deeds = deeds_of_all_kinds(curve.dims, level, 400, salt + 300, 5)
            plain = PlainDeeds(curve, level)
            wanted = [plain.done(deed) for deed in deeds]
            for size in (4, 9, 12):
                self.assertEqual(run(Scene(curve, level, size, deeds)), wanted)

    def test_the_level_is_that_of_the_scene(self):
        for curve in CURVES:
            for level in range(5):
                last = len(curve.parts) ** level - 1
                high = floor_of(curve.dims, level)[1]
                deeds = [("spans",) + floor_of(curve.dims, level), ("place", last + 1), ("number", high)]
                found = run(Scene(curve, level, 4, deeds))
                self.assertEqual(found[:2], [("spans", [(0, last)]), ("refused", "floor")])
                self.assertEqual(found[2], ("number", lain(curve, level).index(high)))


class Texts(RefusedRows):
    def test_told_ones(self):
        text = "\n".join([HEAD] + [row for row, answer in TOLD])
        self.assertEqual(answers(text), "\n".join(answer for row, answer in TOLD))
        self.assertIs(type(answers(text)), str)

    def test_every_beginning_of_them(self):
        for many in range(len(TOLD) + 1):
            text = "\n".join([HEAD] + [row for row, answer in TOLD[:many]])
            self.assertEqual(answers(text), "\n".join(answer for row, answer in TOLD[:many]))

    def test_no_deed_and_one(self):
        for curve in CURVES:
            self.assertEqual(answers(text_with(curve, 2, 4, [])), "")
            self.assertEqual(answers(text_with(curve, 2, 4, [("names",)])), "none")
            self.assertEqual(answers(text_with(curve, 2, 4, [("place", 0)])), written(lain(curve, 2)[0]))

    def test_three_axes(self):
        text = "\n".join(WINDING + [
            "floor 1 4", "put a 0,0,0 1,0,1", "put b 1,1,1 1,1,1", "where a", "number 0,1,0", "place 6",
            "spans 0,0,0 1,0,1", "cover 0,0,0 1,0,1 1", "near 0,1,1 9", "sharing", "inside 0,0,0 1,1,1",
            "put c 0,0,0 0,0,2", "put c 0,1,0 0,0,0",
        ])
        self.assertEqual(answers(text).split("\n"), [
            "ok", "ok", "0,0,0 1,0,1", "3", "1,0,1", "0-1 6-7", "0-7", "1 a 1 b", "none", "a b", "refused floor",
            "refused box",
        ])

    def test_400_deeds(self):
        for curve in CURVES:
            self.assertEqual(answers(text_with(curve, 1, 4, [("names",)] * 400)), "\n".join(["none"] * 400))

    def test_each_text_has_a_yard_of_its_own(self):
        text = HEAD + "\nput mill 0,0 1,1\nnames"
        for step in range(3):
            self.assertEqual(answers(text), "ok\nmill")
        self.assertEqual(answers(HEAD + "\nnames"), "none")

    def test_as_run_tells(self):
        for salt, curve in enumerate(CURVES):
            text = text_with(curve, 2, 5, deeds_of_all_kinds(curve.dims, 2, 200, salt + 400, 4))
            self.assertEqual(answers(text).split("\n"), [plain_row(answer) for answer in run(scene_of(text))])

    def test_refused_as_scene_of(self):
        for rows, floor in ((HILBERT, "floor 3 4"), (CUBE, "floor 2 12")):
            last = len(rows)
            whole = rows + [floor, "names", "sharing"]
            for row in range(1, len(whole) + 1):
                self.refused_by(BadRow, row, answers, "\n".join(with_row(whole, row, "?")))
                self.refused_by(BadRow, row, answers, "\n".join(with_row(whole, row, "")))
            self.refused_by(BadRow, last + 1, answers, "\n".join(rows))
            self.refused_by(BadRow, last + 1, answers, "\n".join(rows + ["floor 7 4"]))
            self.refused_by(BadRow, last + 4, answers, "\n".join(whole) + "\n")
            self.refused_by(BadRow, last + 402, answers, "\n".join(rows + [floor] + ["names"] * 401))
            self.refused_by(CornerTwice, 3, answers, "\n".join(with_row(whole, 3, rows[1])))
        self.refused_by(BadRow, 1, answers, "")

    def test_a_promise_that_is_not_kept(self):
        for curve, levels in UNMET:
            joined = Curve(curve.name, curve.dims, True, curve.parts)
            self.unmet(answers, text_with(joined, 1, 4, [("names",)]), REFUSED_WITH[curve.name])
            self.unmet(answers, text_with(joined, 0, 4, []), REFUSED_WITH[curve.name])
            self.refused_by(BadRow, len(curve.parts) + 4, answers, text_with(joined, 1, 4, [("names",), ("name",)]))


class Alike(unittest.TestCase):
    """Points 2 and 33: whatever the curve and the page size are, questions are answered as by looking at all things."""

    def check(self, curves, level, count, salt, reach):
        dims = curves[0].dims
        deeds = deeds_of_all_kinds(dims, level, count, salt, reach)
        first = rows_of(curves[0], level, 4, deeds)
        seen = set()
        for curve, size in itertools.product(curves, (4, 7, 12)):
            plain = PlainDeeds(curve, level)
            rows = rows_of(curve, level, size, deeds)
            self.assertEqual(len(rows), len(deeds))
            for deed, row, other in zip(deeds, rows, first):
                self.assertEqual(row, plain_row(plain.done(deed)), (curve.name, size, deed))
                if deed[0] in ALIKE or row.startswith("refused") or other.startswith("refused"):
                    self.assertEqual(row, other, (curve.name, size, deed))
                seen.add((deed[0], row if row.startswith("refused") or row == "none" else ""))
        return seen

    def check_seen(self, seen):
        """That the deeds led to every refusal, and each question to an answer that tells something."""
        self.assertLessEqual({
            (word, "") for word in ALIKE + ("number", "place", "spans", "cover")
        } | {
            (word, f"refused {why}") for word, why in (
                ("put", "box"), ("put", "twice"), ("put", "floor"), ("move", "box"), ("move", "thing"),
                ("move", "floor"), ("take", "thing"), ("where", "thing"), ("inside", "box"), ("inside", "floor"),
                ("meeting", "box"), ("meeting", "floor"), ("near", "floor"), ("number", "floor"), ("place", "floor"),
                ("spans", "box"), ("spans", "floor"), ("cover", "box"), ("cover", "floor"),
            )
        }, seen)

    def test_two_axes(self):
        self.check(FLAT, 0, 60, 500, 2)
        self.check_seen(self.check(FLAT, 3, 400, 501, 6) | self.check(FLAT, 3, 400, 502, 4))
        self.check(FLAT, 6, 100, 503, 20)

    def test_three_axes(self):
        self.check(DEEP, 1, 100, 504, 2)
        self.check_seen(self.check(DEEP, 2, 400, 505, 3) | self.check(DEEP, 2, 400, 506, 3))
        self.check(DEEP, 4, 60, 507, 7)


class ToldNumbers(unittest.TestCase):
    """Point 2: what texts tell of numbers, places and stretches."""

    def curves(self):
        for curve in CURVES:
            yield curve
        for curve, levels in UNMET:
            yield Curve(curve.name, curve.dims, False, curve.parts)

    def test_number_and_place_undo_one_another(self):
        for curve in self.curves():
            for level in range(5 if curve.dims == 2 else 3):
                places = sorted(places_of(floor_of(curve.dims, level)))
                numbers = [int(row) for row in rows_of(curve, level, 4, [("number", place) for place in places])]
                self.assertEqual(sorted(numbers), list(range(len(places))))
                back = rows_of(curve, level, 4, [("place", number) for number in numbers])
                self.assertEqual(back, [written(place) for place in places])

    def test_at_the_greatest_levels(self):
        for curve in self.curves():
            level = 6 if curve.dims == 2 else 4
            numbers = list(range(0, 4096, 13)) + [4095]
            rows = rows_of(curve, level, 4, [("place", number) for number in numbers])
            places = [tuple(map(int, row.split(","))) for row in rows]
            self.assertEqual(rows_of(curve, level, 4, [("number", place) for place in places]), list(map(str, numbers)))

    def test_along_a_joined_curve_next_numbers_are_next_places(self):
        for curve in meeting_curves():
            self.assertTrue(curve.joined)
            for level in range(1, 7 if curve.dims == 2 else 5):
                full = len(curve.parts) ** level
                for start in range(0, full, 399):
                    numbers = range(start, min(start + 400, full))
                    rows = rows_of(curve, level, 4, [("place", number) for number in numbers])
                    places = [tuple(map(int, row.split(","))) for row in rows]
                    self.assertTrue(all(one_step(one, other) for one, other in zip(places, places[1:])), curve.name)

    def check_spans(self, curve, level, boxes):
        places = sorted(places_of(floor_of(curve.dims, level)))
        numbers = {}
        for start in range(0, len(places), 400):
            asked = places[start:start + 400]
            told_of = rows_of(curve, level, 4, [("number", place) for place in asked])
            numbers.update(zip(asked, map(int, told_of)))
        for start in range(0, len(boxes), 400):
            asked = boxes[start:start + 400]
            for box, row in zip(asked, rows_of(curve, level, 4, [("spans",) + box for box in asked])):
                spans, held = told_numbers(row)
                self.assertEqual(held, sorted(numbers[place] for place in places_of(box)), (curve.name, box))
                # With a number between each two no fewer stretches would do.
                self.assertTrue(all(one[1] + 1 < other[0] for one, other in zip(spans, spans[1:])), (curve.name, box))

    def test_spans_hold_just_the_numbers_of_the_places(self):
        for curve in self.curves():
            for level in range(3):
                self.check_spans(curve, level, boxes_on(curve.dims, level)[::1 if level < 2 else 3])
            level = 6 if curve.dims == 2 else 4
            end = 2 ** level - 1
            self.check_spans(curve, level, [
                floor_of(curve.dims, level), box_along([(1, end)] * curve.dims), box_along([(0, end - 1)] * curve.dims),
                box_along([(0, 0)] + [(0, end)] * (curve.dims - 1)), box_along([(end, end)] * curve.dims),
            ])

    def test_cover_holds_them_in_no_more_stretches_than_wanted(self):
        for curve in self.curves():
            level = 3 if curve.dims == 2 else 2
            boxes = boxes_on(curve.dims, level)[5::97]
            spans_told = [told_numbers(row) for row in rows_of(curve, level, 4, [("spans",) + box for box in boxes])]
            for many in (1, 2, 3, 5, 999):
                rows = rows_of(curve, level, 4, [("cover",) + box + (many,) for box in boxes])
                for box, row, (spans, held) in zip(boxes, rows, spans_told):
                    covering, covered = told_numbers(row)
                    self.assertLessEqual(len(covering), many)
                    self.assertLessEqual(set(held), set(covered))
                    self.assertEqual(covering, sorted(covering))
                    self.assertEqual(len(covered), self.fewest(spans, many), (curve.name, box, many))

    def fewest(self, spans, many):
        """How many numbers the best stretches of so many hold, found by trying which spaces stay open."""
        spaces = [other[0] - one[1] - 1 for one, other in zip(spans, spans[1:])]
        whole = spans[-1][1] - spans[0][0] + 1
        if many > len(spaces):
            return whole - sum(spaces)
        return whole - max(map(sum, itertools.combinations(spaces, many - 1)))


if __name__ == "__main__":
    unittest.main()
