"""Points 36 and 37: scenes, how their texts are written, read and refused."""

import unittest

from curveyard.curves import Curve
from curveyard.curvetext import curve_rows
from curveyard.errors import BadRow, CornerTwice
from curveyard.scenetext import Scene, scene_of, scene_text
from tests.rows import (
    BAD_NAMES, CUBE, HILBERT, SQUARE, WINDING, RefusedRows, blanks_put_wrong, with_row, words_missing,
)
from tests.samples import REFUSED_WITH, UNMET, cube, hilbert, square, told, winding

CURVES = ((hilbert(), HILBERT), (square(), SQUARE), (winding(), WINDING), (cube(), CUBE))
LEVELS = {2: 6, 3: 4}

# The deeds' rows in the words of point 36.
FORMS = (
    "put NAME PLACE PLACE", "move NAME PLACE PLACE", "take NAME", "names", "where NAME", "inside PLACE PLACE",
    "meeting PLACE PLACE", "near PLACE MANY", "sharing", "number PLACE", "place NUMBER", "spans PLACE PLACE",
    "cover PLACE PLACE MANY",
)
LONGEST = "9" * 60
LONG_ONE = "1" + "0" * 59
NAMES = [(name, name) for name in ("a", "z", "abcdefghijkl", "zzzzzzzzzzzz", "mill", "put", "none", "floor", "curve")]
NUMBERS = [(text, int(text)) for text in ("0", "1", "7", "10", "64", "4095", "1000", LONG_ONE, LONGEST)]
MANIES = [(text, int(text)) for text in ("1", "2", "9", "10", "99", "100", "500", "998", "999")]
PLACES = {
    2: [("0,0", (0, 0)), ("1,2", (1, 2)), ("63,0", (63, 0)), ("10,64", (10, 64)), (f"{LONGEST},0", (int(LONGEST), 0)),
        (f"{LONG_ONE},{LONGEST}", (int(LONG_ONE), int(LONGEST)))],
    3: [("0,0,0", (0, 0, 0)), ("1,2,3", (1, 2, 3)), ("15,0,15", (15, 0, 15)), ("10,16,100", (10, 16, 100)),
        (f"0,{LONGEST},1", (0, int(LONGEST), 1)), (f"1,0,{LONG_ONE}", (1, 0, int(LONG_ONE)))],
}

BAD_FIGURES = ["", "00", "01", "007", "+1", "-1", "-0", "1.", "1.0", "1e1", "0x1", "1_0", "a", "one", "\u0661",
               "\u00b2", "1" * 61, "0" * 60, "0" * 61, "1\t", "\t1", "1\r", "1;", "(1)"]
BAD_NUMBERS = BAD_FIGURES + ["1,", ",1", "1,2", "0,0", "0,0,0"]
BAD_MANIES = BAD_NUMBERS + ["0", "1000", "1001", "9990", LONG_ONE, LONGEST]
BAD_PLACES = {
    2: ["", ",", "0", "1", "0,", ",0", "0,0,", ",0,0", "0,,0", "0,0,0", "1,2,3", "0,0,0,0", "0;0", "0.0", "0-0",
        "(0,0)", "0,0)", "0x0", "00", "mill"],
    3: ["", ",", ",,", "0", "0,0", "1,2", "0,0,", ",0,0", "0,,0", "0,0,0,", ",0,0,0", "0,0,,0", "0,0,0,0", "0;0;0",
        "0.0,0", "(0,0,0)", "000", "mill"],
}
for figures in BAD_FIGURES:
    BAD_PLACES[2] += [f"{figures},1", f"1,{figures}"]
    BAD_PLACES[3] += [f"{figures},1,1", f"1,{figures},1", f"1,1,{figures}"]

BAD_LEVELS = BAD_NUMBERS + ["6.0", "x", LONG_ONE, LONGEST]
BAD_SIZES = BAD_LEVELS + ["0", "1", "2", "3", "13", "14", "04", "+4", "012", "40", "120"]
OTHER_WORDS = ["", "Put", "PUT", "puts", "pu", "name", "nearest", "part", "curve", "floor", "ok", "refused", "none",
               "number:", "#", "0", "0,0", "mill", "\u00e4"]


def good_words(kind, dims):
    """Texts of that kind of word, each with the value that it writes."""
    return {"NAME": NAMES, "NUMBER": NUMBERS, "MANY": MANIES, "PLACE": PLACES[dims]}[kind]


def bad_words(kind, dims):
    return {"NAME": BAD_NAMES, "NUMBER": BAD_NUMBERS, "MANY": BAD_MANIES, "PLACE": BAD_PLACES[dims]}[kind]


def plain_row(form, dims):
    """A row of that form, and its deed."""
    word, *kinds = form.split(" ")
    chosen = [good_words(kind, dims)[at] for at, kind in enumerate(kinds)]
    return (" ".join([word] + [text for text, value in chosen]), (word,) + tuple(value for text, value in chosen))


def all_rows(dims):
    """Rows of every form with every good word in each of its places, and their deeds."""
    found = [plain_row(form, dims) for form in FORMS]
    for form in FORMS:
        row, deed = plain_row(form, dims)
        for at, kind in enumerate(form.split(" ")[1:], 1):
            for text, value in good_words(kind, dims):
                words = row.split(" ")
                words[at] = text
                found.append((" ".join(words), deed[:at] + (value,) + deed[at + 1:]))
    return found


def bad_rows(form, dims):
    row = plain_row(form, dims)[0]
    words = row.split(" ")
    found = blanks_put_wrong(row) + words_missing(row) + ["", " ", "\t", row + " " + row]
    found += [row + " " + word for word in ("0", "1", "mill", "0,0", "0,0,0", "back", words[0])]
    found += [word + " " + row for word in ("0", "mill", words[0])]
    found += [words[0].upper() + row[len(words[0]):], words[0].capitalize() + row[len(words[0]):], row.upper() + "X"]
    found += [" ".join([other] + words[1:]) for other in OTHER_WORDS]
    found += [" ".join(words[::-1])] if len(words) > 1 else []
    for at, kind in enumerate(form.split(" ")[1:], 1):
        for word in bad_words(kind, dims):
            if "\n" not in word:
                found.append(" ".join(words[:at] + [word] + words[at + 1:]))
    return found


def text_of(rows):
    return "\n".join(rows)


def told_scene(scene):
    """All that a scene holds, as plain values."""
    return (told(scene.curve), scene.level, scene.size, scene.deeds)


class Scenes(unittest.TestCase):
    def test_fields(self):
        for curve, rows in CURVES:
            deeds = [("names",), ("take", "a")]
            scene = Scene(curve, 3, 5, deeds)
            self.assertIs(scene.curve, curve)
            self.assertEqual((scene.level, scene.size, scene.deeds), (3, 5, [("names",), ("take", "a")]))
            self.assertIs(type(scene.deeds), list)

    def test_a_list_of_its_own(self):
        deeds = [("names",)]
        scene = Scene(hilbert(), 3, 5, deeds)
        deeds.append(("sharing",))
        self.assertEqual(scene.deeds, [("names",)])
        deeds.clear()
        self.assertEqual(scene.deeds, [("names",)])
        scene.deeds.append(("take", "a"))
        self.assertEqual(deeds, [])
        self.assertEqual(scene_text(scene), text_of(HILBERT + ["floor 3 5", "names", "take a"]))

    def test_no_list_is_shared_by_two_scenes(self):
        deeds = []
        one, other = Scene(hilbert(), 3, 5, deeds), Scene(hilbert(), 3, 5, deeds)
        one.deeds.append(("names",))
        self.assertEqual((other.deeds, deeds), ([], []))


class ReadAndWritten(unittest.TestCase):
    def check(self, curve, rows, level, size, deeds):
        """That a text is read as this scene, of the right kinds, and that the scene is written so."""
        text = text_of(rows)
        scene = scene_of(text)
        self.assertIs(type(scene), Scene)
        self.assertIs(type(scene.curve), Curve)
        self.assertEqual(told_scene(scene), (told(curve), level, size, deeds))
        self.assertEqual([type(value) for value in (scene.level, scene.size, scene.deeds)], [int, int, list])
        for deed in scene.deeds:
            self.check_kinds(deed, curve.dims)
        self.assertEqual(scene_text(scene), text)
        written = scene_text(Scene(curve, level, size, deeds))
        self.assertEqual((type(written), written), (str, text))
        self.assertEqual(told_scene(scene_of(written)), (told(curve), level, size, deeds))

    def check_kinds(self, deed, dims):
        self.assertIs(type(deed), tuple)
        form = [form for form in FORMS if form.split(" ")[0] == deed[0]][0]
        for kind, value in zip(form.split(" ")[1:], deed[1:]):
            self.assertIs(type(value), {"NAME": str, "PLACE": tuple, "MANY": int, "NUMBER": int}[kind])
            if kind == "PLACE":
                self.assertEqual([type(along) for along in value], [int] * dims)

    def test_told_ones(self):
        self.check(hilbert(), [
            "curve hilbert joined 2", "part 00 +y+x", "part 01 +x+y", "part 11 +x+y", "part 10 -y-x", "floor 3 4",
            "put mill 0,0 3,12", "move mill 10,2 1,1", "take mill", "names", "where barn", "inside 0,0 7,7",
            "meeting 1,2 3,4", "near 5,0 2", "sharing", "number 0,6", "place 20", "spans 1,1 2,4", "cover 1,1 2,4 2",
        ], 3, 4, [
            ("put", "mill", (0, 0), (3, 12)), ("move", "mill", (10, 2), (1, 1)), ("take", "mill"), ("names",),
            ("where", "barn"), ("inside", (0, 0), (7, 7)), ("meeting", (1, 2), (3, 4)), ("near", (5, 0), 2),
            ("sharing",), ("number", (0, 6)), ("place", 20), ("spans", (1, 1), (2, 4)), ("cover", (1, 1), (2, 4), 2),
        ])
        self.check(cube(), CUBE + [
            "floor 0 12", "put a 0,0,0 1,2,3", "move a 9,0,1 2,2,2", "take a", "names", "where a",
            "inside 0,0,0 1,1,1", "meeting 3,2,1 3,2,1", "near 5,0,7 999", "sharing", "number 0,6,1", "place 0",
            "spans 1,1,1 2,4,6", "cover 1,1,1 2,4,6 1",
        ], 0, 12, [
            ("put", "a", (0, 0, 0), (1, 2, 3)), ("move", "a", (9, 0, 1), (2, 2, 2)), ("take", "a"), ("names",),
            ("where", "a"), ("inside", (0, 0, 0), (1, 1, 1)), ("meeting", (3, 2, 1), (3, 2, 1)),
            ("near", (5, 0, 7), 999), ("sharing",), ("number", (0, 6, 1)), ("place", 0),
            ("spans", (1, 1, 1), (2, 4, 6)), ("cover", (1, 1, 1), (2, 4, 6), 1),
        ])

    def test_no_deed(self):
        for curve, rows in CURVES:
            self.check(curve, rows + ["floor 2 4"], 2, 4, [])
            self.assertEqual(scene_of(text_of(rows + ["floor 2 4"])).deeds, [])

    def test_every_level_and_size(self):
        for curve, rows in CURVES:
            for level in range(LEVELS[curve.dims] + 1):
                for size in range(4, 13):
                    self.check(curve, rows + [f"floor {level} {size}", "names"], level, size, [("names",)])

    def test_every_form_by_itself(self):
        for curve, rows in CURVES:
            for form in FORMS:
                row, deed = plain_row(form, curve.dims)
                self.check(curve, rows + ["floor 1 5", row], 1, 5, [deed])

    def test_every_good_word(self):
        for curve, rows in CURVES:
            found = all_rows(curve.dims)
            self.assertLess(len(found), 400)
            self.check(curve, rows + ["floor 4 7"] + [row for row, deed in found], 4, 7, [deed for row, deed in found])

    def test_places_are_not_asked_for_the_floor_nor_lows_for_their_highs(self):
        deeds = [("put", "a", (9, 9), (0, 0)), ("inside", (1, 0), (0, 1)), ("number", (64, 0)), ("place", 10 ** 59)]
        rows = ["put a 9,9 0,0", "inside 1,0 0,1", "number 64,0", "place 1" + "0" * 59]
        self.check(hilbert(), HILBERT + ["floor 0 4"] + rows, 0, 4, deeds)

    def test_the_same_deed_again_and_again(self):
        for many in (2, 399, 400):
            for curve, rows in CURVES:
                row, deed = plain_row("put NAME PLACE PLACE", curve.dims)
                self.check(curve, rows + ["floor 1 4"] + [row] * many, 1, 4, [deed] * many)

    def test_curves_that_are_loose_need_not_meet(self):
        for curve, levels in UNMET:
            loose = Curve(curve.name, curve.dims, False, curve.parts)
            self.check(loose, curve_rows(loose) + ["floor 1 4", "names"], 1, 4, [("names",)])

    def test_names_of_the_curve_and_of_words_of_rows(self):
        for name in ("floor", "part", "put", "names", "curve"):
            curve = Curve(name, 2, True, hilbert().parts)
            rows = curve_rows(curve) + ["floor 1 4", f"take {name}", f"where {name}"]
            self.check(curve, rows, 1, 4, [("take", name), ("where", name)])

    def test_writing_changes_nothing(self):
        for curve, rows in CURVES:
            deeds = [deed for row, deed in all_rows(curve.dims)]
            scene = Scene(curve, 2, 5, deeds)
            before = told_scene(Scene(curve, 2, 5, deeds))
            self.assertEqual(scene_text(scene), scene_text(scene))
            self.assertEqual(told_scene(scene), before)

    def test_two_readings_are_two_scenes(self):
        text = text_of(HILBERT + ["floor 1 4", "names"])
        one, other = scene_of(text), scene_of(text)
        one.deeds.clear()
        one.curve.parts.clear()
        self.assertEqual(scene_text(other), text)
        self.assertEqual(scene_text(scene_of(text)), text)


class Refusing(RefusedRows):
    def refused(self, kind, row, rows):
        self.refused_by(kind, row, scene_of, text_of(rows))


class BadFloors(Refusing):
    def refused_floor(self, rows, row):
        self.refused(BadRow, len(rows) + 1, rows + [row])
        self.refused(BadRow, len(rows) + 1, rows + [row, "names"])

    def test_missing(self):
        for curve, rows in CURVES:
            self.refused(BadRow, len(rows) + 1, rows)

    def test_rows_of_the_curve_cut_off(self):
        for curve, rows in CURVES:
            for many in range(1, len(rows)):
                self.refused(BadRow, many + 1, rows[:many])
                self.refused(BadRow, many + 1, rows[:many] + ["floor 1 4"])
                self.refused(BadRow, many + 1, rows[:many] + ["floor 1 4"] + rows[many:])
        self.refused(BadRow, 1, [""])
        self.refused(BadRow, 1, ["", ""])

    def test_ahead_of_its_place(self):
        for curve, rows in CURVES:
            for number in range(1, len(rows) + 1):
                self.refused(BadRow, number, rows[:number - 1] + ["floor 1 4"] + rows[number - 1:] + ["names"])

    def test_a_deed_in_its_place(self):
        for curve, rows in CURVES:
            for form in FORMS:
                row = plain_row(form, curve.dims)[0]
                self.refused_floor(rows, row)
                self.refused(BadRow, len(rows) + 1, rows + [row, "floor 1 4"])

    def test_twice(self):
        for curve, rows in CURVES:
            for behind in ([], ["names"], ["names"] * 5):
                for other in ("floor 1 4", "floor 2 5"):
                    again = len(rows) + 2 + len(behind)
                    self.refused(BadRow, again, rows + ["floor 1 4"] + behind + [other])
                    self.refused(BadRow, again, rows + ["floor 1 4"] + behind + [other, "names"])

    def test_a_part_too_many(self):
        for curve, rows in CURVES:
            self.refused(BadRow, len(rows) + 1, rows + [rows[-1], "floor 1 4"])
            self.refused(BadRow, len(rows) + 2, rows + ["floor 1 4", rows[-1]])

    def test_levels(self):
        for curve, rows in CURVES:
            most = LEVELS[curve.dims]
            for level in BAD_LEVELS + [str(most + 1), str(most + 2), "7", "8", "60", "61", "-1", f"0{most}"]:
                self.refused_floor(rows, f"floor {level} 4")
                self.refused_floor(rows, f"floor {level} 12")
        self.refused_floor(WINDING, "floor 5 4")
        self.refused_floor(CUBE, "floor 6 4")

    def test_sizes(self):
        for curve, rows in CURVES:
            for size in BAD_SIZES:
                for level in (0, LEVELS[curve.dims]):
                    self.refused_floor(rows, f"floor {level} {size}")

    def test_other_forms(self):
        for curve, rows in CURVES:
            row = "floor 2 5"
            found = blanks_put_wrong(row) + words_missing(row) + ["", " ", "\t", row + " " + row, row + " 5"]
            found += [f"{word} 2 5" for word in OTHER_WORDS if word != "floor"]
            found += ["Floor 2 5", "FLOOR 2 5", "floors 2 5", "floo 2 5", "2 floor 5", "2 5 floor", "floor 2,5"]
            for bad in found:
                self.refused_floor(rows, bad)


class BadDeeds(Refusing):
    def test_every_form(self):
        for curve, rows in ((hilbert(), HILBERT), (cube(), CUBE)):
            ahead = rows + ["floor 1 4"]
            for form in FORMS:
                for bad in bad_rows(form, curve.dims):
                    self.refused(BadRow, len(ahead) + 1, ahead + [bad])

    def test_at_other_rows(self):
        for curve, rows in ((square(), SQUARE), (winding(), WINDING)):
            ahead = rows + ["floor 1 4"] + [plain_row(form, curve.dims)[0] for form in FORMS]
            for form in FORMS:
                for bad in bad_rows(form, curve.dims)[::7]:
                    self.refused(BadRow, len(ahead) + 1, ahead + [bad])
                    self.refused(BadRow, len(ahead) + 1, ahead + [bad, "names", "sharing"])
                    self.refused(BadRow, len(rows) + 2, with_row(ahead, len(rows) + 2, bad))

    def test_many(self):
        for many in ("0", "1000"):
            self.refused(BadRow, 7, HILBERT + ["floor 1 4", f"near 0,0 {many}"])
            self.refused(BadRow, 7, HILBERT + ["floor 1 4", f"cover 0,0 0,0 {many}"])
        for many in (1, 999):
            rows = HILBERT + ["floor 1 4", f"near 0,0 {many}", f"cover 0,0 0,0 {many}"]
            self.assertEqual(scene_of(text_of(rows)).deeds, [("near", (0, 0), many), ("cover", (0, 0), (0, 0), many)])

    def test_places_of_the_other_count_of_axes(self):
        for curve, rows in CURVES:
            other = 5 - curve.dims
            for form in FORMS:
                if "PLACE" in form:
                    self.refused(BadRow, len(rows) + 2, rows + ["floor 1 4", plain_row(form, other)[0]])
                if form.count("PLACE") == 2:
                    words, others = plain_row(form, curve.dims)[0].split(" "), plain_row(form, other)[0].split(" ")
                    for at, kind in enumerate(form.split(" ")):
                        if kind == "PLACE":
                            bad = " ".join(words[:at] + [others[at]] + words[at + 1:])
                            self.refused(BadRow, len(rows) + 2, rows + ["floor 1 4", bad])

    def test_a_place_with_blanks(self):
        for bad in ("number 0, 0", "number 0 ,0", "number 0 0", "inside 0, 0 1,1", "near 0,0 , 1", "put a 0, 0 1,1"):
            self.refused(BadRow, 7, HILBERT + ["floor 1 4", bad])

    def test_empty_rows(self):
        for curve, rows in CURVES:
            whole = rows + ["floor 1 4", "names", "sharing", "names"]
            for number in range(1, len(whole) + 2):
                self.refused(BadRow, number, whole[:number - 1] + [""] + whole[number - 1:])
                self.refused(BadRow, number, whole[:number - 1] + ["", ""] + whole[number - 1:])
            self.refused(BadRow, len(rows) + 2, rows + ["floor 1 4", ""])
            self.refused(BadRow, len(rows) + 1, rows + [""])

    def test_other_line_ends(self):
        for curve, rows in CURVES:
            whole = rows + ["floor 1 4", "names", "sharing"]
            for between in ("\r\n", "\r", "\v", "\f", "\u2028", "\x85", " \n"):
                self.refused_by(BadRow, 1, scene_of, between.join(whole))
                self.refused_by(BadRow, len(rows) + 2, scene_of,
                                text_of(rows + ["floor 1 4"]) + "\n" + between.join(["names", "sharing"]))
            self.refused_by(BadRow, len(whole), scene_of, text_of(whole) + "\r")
            self.refused_by(BadRow, len(whole) + 1, scene_of, text_of(whole) + "\n")

    def test_the_401st_deed(self):
        for curve, rows in CURVES:
            for row in ("names", plain_row("cover PLACE PLACE MANY", curve.dims)[0]):
                ahead = rows + ["floor 1 4"] + [row] * 400
                self.assertEqual(len(scene_of(text_of(ahead)).deeds), 400)
                for behind in ([row], [row] * 2, [row] * 100, [""], ["?"], [row, "?"], ["floor 1 4"]):
                    self.refused(BadRow, len(ahead) + 1, ahead + behind)


class TwoFaults(Refusing):
    def test_the_upper_row_goes_first(self):
        for curve, rows in CURVES:
            floor = len(rows) + 1
            good = rows + ["floor 1 4", "names", "sharing", "names", "sharing"]
            bad = {number: "?" for number in range(1, len(good) + 1)}
            bad[floor] = "floor 9 4"
            bad[floor + 1], bad[floor + 3] = "near 0,0 0", "take Mill"
            for one in range(1, len(good) + 1):
                for other in range(one + 1, len(good) + 1):
                    self.refused(BadRow, one, with_row(with_row(good, one, bad[one]), other, bad[other]))
                self.refused(BadRow, one, with_row(good, one, bad[one]) + [""])

    def test_a_corner_twice_among_them(self):
        for curve, rows in CURVES:
            good = rows + ["floor 1 4", "names"]
            for later in range(3, len(rows) + 1):
                twice = with_row(good, later, rows[1])
                self.refused(CornerTwice, later, twice)
                self.refused(CornerTwice, later, twice[:later])
                self.refused(CornerTwice, later, with_row(twice, len(rows) + 1, "floor 1 3"))
                self.refused(CornerTwice, later, with_row(twice, len(rows) + 2, "?"))
                self.refused(CornerTwice, later, twice + ["names"] * 400)
                self.refused(BadRow, later - 1, with_row(twice, later - 1, "part"))
                self.refused(BadRow, later, with_row(twice, later, rows[1] + " forth"))

    def test_a_bad_row_ahead_of_the_401st_deed(self):
        for at in (1, 200, 400):
            deeds = ["names"] * (at - 1) + ["name"] + ["names"] * (405 - at)
            self.refused(BadRow, 6 + at, HILBERT + ["floor 1 4"] + deeds)
            self.refused(BadRow, 6, HILBERT + ["floor 1 13"] + deeds)


class Promise(Refusing):
    def joined_rows(self):
        for curve, levels in UNMET:
            yield curve.name, curve_rows(Curve(curve.name, curve.dims, True, curve.parts)), curve.dims

    def test_unmet(self):
        for name, rows, dims in self.joined_rows():
            wanted = REFUSED_WITH[name]
            for level in range(LEVELS[dims] + 1):
                self.unmet(scene_of, text_of(rows + [f"floor {level} 4"]), wanted)
            self.unmet(scene_of, text_of(rows + ["floor 1 4"] + ["names"] * 400), wanted)
            self.unmet(scene_of, text_of(rows + ["floor 1 4"] + [plain_row(form, dims)[0] for form in FORMS]), wanted)

    def test_every_row_goes_ahead_of_the_promise(self):
        for name, rows, dims in self.joined_rows():
            last = len(rows)
            self.refused(BadRow, last + 1, rows)
            self.refused(BadRow, last + 1, rows + [""])
            self.refused(BadRow, last + 1, rows + ["floor 1 3"])
            self.refused(BadRow, last + 1, rows + ["floor 7 4", "names"])
            self.refused(BadRow, last + 2, rows + ["floor 1 4", ""])
            self.refused(BadRow, last + 4, rows + ["floor 1 4", "names", "names", "near 0,0 0"])
            self.refused(BadRow, last + 402, rows + ["floor 1 4"] + ["names"] * 401)
            self.refused(CornerTwice, last, with_row(rows, last, rows[1]) + ["floor 1 4", "names"])

    def test_a_scene_is_written_whatever_its_curve_promises(self):
        for name, rows, dims in self.joined_rows():
            loose = [rows[0].replace(" joined ", " loose ")] + rows[1:]
            scene = scene_of(text_of(loose + ["floor 1 4", "names"]))
            scene.curve.joined = True
            self.assertEqual(scene_text(scene), text_of(rows + ["floor 1 4", "names"]))


if __name__ == "__main__":
    unittest.main()
