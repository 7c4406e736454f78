"""Points 10 to 12 and 17: curves told as texts, how they are refused, and the promise that is asked."""

import unittest

from curveyard.curves import Curve
from curveyard.curvetext import curve_from, curve_of, curve_rows, curve_text, fitted
from curveyard.errors import BadRow, CornerTwice, Unmet
from curveyard.fitting import meeting_of
from tests.rows import (
    BAD_NAMES, CUBE, HILBERT, SQUARE, WINDING, RefusedRows, blanks_put_wrong, with_row, words_missing,
)
from tests.samples import (
    REFUSED_WITH, UNMET, all_corners, all_turns, cube, folded, hilbert, meeting_curves, square, told, winding,
)

TOLD = ((hilbert(), HILBERT), (square(), SQUARE), (cube(), CUBE), (winding(), WINDING))

BAD_DIMS = ["", "0", "1", "4", "5", "6", "9", "02", "03", "+2", "2.", "2d", "22", "23", "two", "x", "\u0662",
            "2\n", "-2"]
BAD_PROMISES = ["", "join", "joine", "joinedd", "Joined", "JOINED", "looser", "Loose", "joined,", "true", "back"]
BAD_HEADS = ["", "Curve", "CURVE", "curves", "curv", "part", "floor", "curve:", "#curve"]
BAD_PARTS = ["", "Part", "PART", "parts", "par", "curve", "back", "part:", "#part"]
BAD_BACKS = ["", "Back", "BACK", "backs", "bac", "back.", "back\n", "forth", "ahead", "0", "1", "True", "joined"]
BAD_CORNERS = {
    2: ["", "0", "1", "000", "010", "011", "0110", "02", "20", "0x", "-1", "0,1", "(0", "\u0660\u0660", "01\n", "0b"],
    3: ["", "0", "00", "01", "11", "0000", "0101", "002", "200", "00x", "-10", "0,1", "\u06600\u0660", "011\n"],
}
BAD_TURNS = {
    2: ["", "+x", "xy", "+x+x", "-y+y", "+x+z", "+z+y", "+x+y+z", "-z+x+y", "+X+Y", "x+y+", "+x+y+", "+x,+y", "*x+y",
        "+x+y\n", "back", "00"],
    3: ["", "+x", "+x+y", "-y-x", "xyz", "+x+y+x", "+x+z+z", "+x+y+w", "+x+y+z+x", "+X+Y+Z", "x+y+z+", "+x+y+z\n",
        "back", "000"],
}


def bad_heads(row):
    curve, name, promise, dims = row.split(" ")
    texts = blanks_put_wrong(row) + words_missing(row) + ["", " ", row + " back", row + " 2", row + " " + row]
    texts += [f"{name} {curve} {promise} {dims}", f"{curve} {promise} {name} {dims}"]
    texts += [f"{curve} {name} {dims} {promise}"]
    texts += [f"{word} {name} {promise} {dims}" for word in BAD_HEADS]
    texts += [f"{curve} {word} {promise} {dims}" for word in BAD_NAMES]
    texts += [f"{curve} {name} {word} {dims}" for word in BAD_PROMISES]
    texts += [f"{curve} {name} {promise} {word}" for word in BAD_DIMS]
    return texts


def bad_parts(row, dims):
    part, corner, turn = row.split(" ")[:3]
    back = " back" if row.endswith(" back") else ""
    texts = blanks_put_wrong(row) + words_missing(f"{part} {corner} {turn}") + ["", " ", row + " " + row]
    texts += words_missing(f"{part} {corner} {turn} back")[:3]
    texts += [f"{part} {corner} {turn} back back", f"{part} {corner} {turn}{back} 1", f"{part} {corner} back {turn}"]
    texts += [f"{part} {turn} {corner}{back}", f"{corner} {part} {turn}{back}", f"back {part} {corner} {turn}"]
    texts += [f"{word} {corner} {turn}{back}" for word in BAD_PARTS]
    texts += [f"{part} {word} {turn}{back}" for word in BAD_CORNERS[dims]]
    texts += [f"{part} {corner} {word}{back}" for word in BAD_TURNS[dims]]
    texts += [f"{part} {corner} {turn} {word}" for word in BAD_BACKS]
    return texts


class Refusing(RefusedRows):
    def refused(self, kind, row, rows):
        """Refused so by curve_from, and by curve_of of the same rows as a text."""
        self.refused_rows(kind, row, rows)
        # A line end within a row makes other rows of the text.
        if not any("\n" in other for other in rows):
            self.refused_text(kind, row, "\n".join(rows))

    def refused_rows(self, kind, row, rows):
        before = list(rows)
        self.refused_by(kind, row, curve_from, rows)
        self.assertEqual(rows, before)

    def refused_text(self, kind, row, text):
        self.refused_by(kind, row, curve_of, text)


class Writing(unittest.TestCase):
    def test_told_ones(self):
        for curve, rows in TOLD:
            self.assertEqual(curve_rows(curve), rows)
            self.assertEqual(curve_text(curve), "\n".join(rows))

    def test_kinds(self):
        for curve, rows in TOLD:
            self.assertIs(type(curve_rows(curve)), list)
            self.assertEqual({type(row) for row in curve_rows(curve)}, {str})
            self.assertIs(type(curve_text(curve)), str)

    def test_no_line_end_behind_the_last_row(self):
        for curve, rows in TOLD:
            self.assertEqual(curve_text(curve).count("\n"), len(curve.parts))
            self.assertFalse(curve_text(curve).endswith("\n"))

    def test_the_rows_are_the_askers_own(self):
        for curve, rows in TOLD:
            before = told(curve)
            found = curve_rows(curve)
            kept = curve_rows(curve)
            found.clear()
            self.assertEqual(kept, rows)
            self.assertEqual(curve_rows(curve), rows)
            curve.parts.reverse()
            self.assertEqual(kept, rows)
            curve.parts.reverse()
            self.assertEqual(told(curve), before)

    def test_the_promise_is_not_asked_of_what_is_written(self):
        for curve, levels in UNMET:
            joined = Curve(curve.name, curve.dims, True, curve.parts)
            self.assertEqual(curve_rows(joined)[0], f"curve {curve.name} joined {curve.dims}")
            self.assertEqual(curve_rows(joined)[1:], curve_rows(curve)[1:])


class Reading(unittest.TestCase):
    def test_told_ones(self):
        for curve, rows in TOLD:
            for found in (curve_from(rows), curve_of("\n".join(rows))):
                self.assertIs(type(found), Curve)
                self.assertEqual(told(found), told(curve))

    def test_kinds(self):
        for curve, rows in TOLD:
            found = curve_of("\n".join(rows))
            self.assertIs(type(found.joined), bool)
            self.assertIs(type(found.dims), int)
            self.assertIs(type(found.parts), list)
            for part in found.parts:
                self.assertIs(type(part.back), bool)
                self.assertEqual({type(part.corner), type(part.turn)}, {tuple})

    def test_every_turn_with_and_without_back(self):
        for dims in (2, 3):
            corners, turns = all_corners(dims), all_turns(dims)
            for k in range(len(turns)):
                parts = []
                for place, corner in enumerate(corners[k % 4:] + corners[:k % 4]):
                    turn = turns[(k + place) % len(turns)]
                    signs = "".join("+-"[flip] + "xyz"[axis] for axis, flip in turn)
                    back = " back" if (k + place) % 3 == 0 else ""
                    parts.append("".join(map(str, corner)) + " " + signs + back)
                curve = folded("some", "loose", *parts)
                text = curve_text(curve)
                self.assertEqual(text, "\n".join([f"curve some loose {dims}"] + ["part " + part for part in parts]))
                self.assertEqual(told(curve_of(text)), told(curve))
                self.assertEqual(told(curve_from(text.split("\n"))), told(curve))

    def test_names(self):
        for name in ("a", "z", "abcdefghijkl", "curve", "part", "joined", "loose", "back"):
            for rows in (HILBERT, CUBE):
                words = rows[0].split(" ")
                words[1] = name
                other = [" ".join(words)] + rows[1:]
                self.assertEqual(curve_of("\n".join(other)).name, name)
                self.assertEqual(curve_from(other).name, name)

    def test_rows_behind_are_not_looked_at(self):
        for curve, rows in TOLD:
            for behind in ([""], ["floor 3 4", "names"], rows, ["part 00 +x+y"], ["", " ", "?"], ["x"] * 500):
                handed = rows + behind
                self.assertEqual(told(curve_from(handed)), told(curve))
                self.assertEqual(handed, rows + behind)

    def test_curve_from_does_not_ask_the_promise(self):
        for curve, levels in UNMET:
            joined = Curve(curve.name, curve.dims, True, curve.parts)
            self.assertEqual(told(curve_from(curve_rows(joined))), told(joined))

    def test_the_rows_handed_in_are_not_kept(self):
        rows = list(CUBE)
        found = curve_from(rows)
        rows.clear()
        self.assertEqual(told(found), told(cube()))

    def test_two_readings_are_two_curves(self):
        one, other = curve_from(HILBERT), curve_from(HILBERT)
        one.parts.clear()
        one.name = "other"
        self.assertEqual(told(other), told(hilbert()))
        self.assertEqual(told(curve_from(HILBERT)), told(hilbert()))


class OtherForms(Refusing):
    def test_first_row(self):
        for curve, rows in TOLD:
            for row in bad_heads(rows[0]):
                self.refused(BadRow, 1, with_row(rows, 1, row))

    def test_each_part(self):
        for curve, rows in TOLD:
            for number in range(2, len(rows) + 1):
                for row in bad_parts(rows[number - 1], curve.dims):
                    self.refused(BadRow, number, with_row(rows, number, row))

    def test_dims_of_the_other_count(self):
        self.refused(BadRow, 2, with_row(HILBERT, 1, "curve hilbert joined 3"))
        self.refused(BadRow, 2, with_row(CUBE, 1, "curve cube loose 2"))
        self.refused(BadRow, 3, with_row(HILBERT, 3, "part 010 +x+y"))
        self.refused(BadRow, 3, with_row(HILBERT, 3, "part 01 +x+y+z"))
        self.refused(BadRow, 9, with_row(CUBE, 9, "part 10 -z-x+y"))
        self.refused(BadRow, 9, with_row(CUBE, 9, "part 100 -y-x"))

    def test_rows_cut_off(self):
        for curve, rows in TOLD:
            for many in range(1, len(rows)):
                self.refused(BadRow, many + 1, rows[:many])

    def test_the_empty_text_and_the_empty_row(self):
        self.refused_text(BadRow, 1, "")
        self.refused_text(BadRow, 1, "\n")
        self.refused_rows(BadRow, 1, [""])
        for curve, rows in TOLD:
            for number in range(1, len(rows) + 1):
                self.refused(BadRow, number, rows[:number - 1] + [""] + rows[number - 1:])
                self.refused(BadRow, number, with_row(rows, number, ""))

    def test_one_row_left_out_or_put_twice(self):
        for curve, rows in TOLD:
            self.refused(BadRow, 1, rows[1:])
            self.refused(BadRow, 2, rows[:1] + rows)
            for number in range(2, len(rows) + 1):
                self.refused(BadRow, len(rows), rows[:number - 1] + rows[number:])
                self.refused_text(CornerTwice if number < len(rows) else BadRow, number + 1,
                                  "\n".join(rows[:number] + rows[number - 1:]))

    def test_a_row_behind_the_last_part(self):
        for curve, rows in TOLD:
            for behind in (["", ""], [""], ["part 00 +x+y"], ["floor 3 4"], rows, [rows[-1]], [" "], ["", "x"]):
                self.refused_text(BadRow, len(rows) + 1, "\n".join(rows + behind))

    def test_other_line_ends(self):
        for curve, rows in TOLD:
            for between in ("\r\n", "\r", "\v", "\f", "\u2028", "\x85", "\n\r", " \n", "\n ", ";", ""):
                row = 2 if between in ("\n\r", "\n ") else 1
                self.refused_text(BadRow, row, between.join(rows))
            self.refused_text(BadRow, 2, "\n\n".join(rows))
            self.refused_text(BadRow, 1, "\n" + "\n".join(rows))
            self.refused_text(BadRow, len(rows), "\n".join(rows) + "\r")
            self.refused_text(BadRow, len(rows) + 1, "\n".join(rows) + "\n")

    def test_a_line_end_in_a_row(self):
        self.refused_rows(BadRow, 1, with_row(HILBERT, 1, HILBERT[0] + "\n"))
        self.refused_rows(BadRow, 5, with_row(HILBERT, 5, HILBERT[4] + "\n"))
        self.refused_rows(BadRow, 1, ["\n".join(HILBERT)])
        self.refused_rows(BadRow, 3, with_row(SQUARE, 3, SQUARE[2] + "\n" + SQUARE[3]))


class Corners(Refusing):
    def test_a_corner_that_an_earlier_row_has(self):
        for curve, rows in TOLD:
            for earlier in range(2, len(rows) + 1):
                for later in range(earlier + 1, len(rows) + 1):
                    words = rows[later - 1].split(" ")
                    words[1] = rows[earlier - 1].split(" ")[1]
                    self.refused(CornerTwice, later, with_row(rows, later, " ".join(words)))

    def test_with_another_turn_and_back_it_is_the_same_corner(self):
        self.refused(CornerTwice, 4, with_row(HILBERT, 4, "part 00 -x-y back"))
        self.refused(CornerTwice, 9, with_row(CUBE, 9, "part 010 -x-y-z"))

    def test_three_times_the_first_one_again_is_refused(self):
        rows = [HILBERT[0]] + ["part 01 +x+y"] * 4
        self.refused(CornerTwice, 3, rows)


class TwoFaults(Refusing):
    def test_the_upper_row_goes_first(self):
        bad, twice = "part 0 +x+y", "part 00 +x+y"
        self.refused(BadRow, 3, [HILBERT[0], HILBERT[1], bad, twice, HILBERT[4]])
        self.refused(CornerTwice, 3, [HILBERT[0], HILBERT[1], twice, bad, HILBERT[4]])
        self.refused(BadRow, 3, [HILBERT[0], HILBERT[1], bad, bad, twice])
        self.refused(CornerTwice, 3, [HILBERT[0], HILBERT[1], twice, twice, bad])
        self.refused(BadRow, 1, ["curve hilbert joined 4", bad, twice, HILBERT[3], HILBERT[4]])
        self.refused(BadRow, 1, ["curve Hilbert joined 2", twice, twice, HILBERT[3], HILBERT[4]])
        self.refused(BadRow, 2, [CUBE[0], "", CUBE[1], CUBE[1]])

    def test_in_one_row_bad_row_goes_first(self):
        for row in ("part 00 +x+x", "part 00 +x+y forth", "part 00", "part 00 +x+y ", "path 00 +x+y", "part 00 +x+y+z"):
            self.refused(BadRow, 3, with_row(HILBERT, 3, row))
        for row in ("part 010 +x+y", "part 010 +x+y+z back 1", " part 010 +x+y+z"):
            self.refused(BadRow, 6, with_row(CUBE, 6, row))

    def test_a_missing_row_is_the_last_one(self):
        self.refused(CornerTwice, 3, [HILBERT[0], HILBERT[1], HILBERT[1]])
        self.refused(BadRow, 3, [HILBERT[0], HILBERT[1], "part"])
        self.refused(BadRow, 4, [HILBERT[0], HILBERT[1], HILBERT[2]])

    def test_a_row_behind_comes_last(self):
        self.refused_text(CornerTwice, 5, "\n".join(HILBERT[:4] + [HILBERT[3], HILBERT[4]]))
        self.refused_text(BadRow, 4, "\n".join(with_row(HILBERT, 4, "part") + ["part"]))
        self.refused_text(BadRow, 6, "\n".join(HILBERT + ["part", "part"]))


class Promise(RefusedRows):
    def test_fitted_answers_the_very_curve(self):
        for curve in meeting_curves():
            before = told(curve)
            self.assertIs(fitted(curve), curve)
            loose = Curve(curve.name, curve.dims, False, curve.parts)
            self.assertIs(fitted(loose), loose)
            self.assertEqual(told(curve), before)

    def test_a_loose_curve_may_be_unmet(self):
        for curve, levels in UNMET:
            loose = Curve(curve.name, curve.dims, False, curve.parts)
            before = told(loose)
            self.assertIs(fitted(loose), loose)
            self.assertEqual(told(curve_of(curve_text(loose))), before)
            self.assertEqual(told(loose), before)

    def test_a_joined_curve_that_does_not_meet(self):
        for curve, levels in UNMET:
            joined = Curve(curve.name, curve.dims, True, curve.parts)
            before = told(joined)
            self.unmet(fitted, joined, REFUSED_WITH[curve.name])
            self.unmet(curve_of, curve_text(joined), REFUSED_WITH[curve.name])
            self.assertEqual(told(joined), before)

    def test_as_meeting_of_tells(self):
        for curve, levels in UNMET:
            joined = Curve(curve.name, curve.dims, True, curve.parts)
            first, level = meeting_of(joined)
            self.unmet(fitted, joined, (first, first + 1, level))

    def test_joined_curves_that_meet_are_read(self):
        for curve in meeting_curves():
            self.assertEqual(told(curve_of(curve_text(curve))), told(curve))


class AheadOfThePromise(Refusing):
    def test_bad_rows_and_corners_go_first(self):
        for curve, levels in UNMET:
            rows = curve_rows(Curve(curve.name, curve.dims, True, curve.parts))
            with self.assertRaises(Unmet):
                curve_of("\n".join(rows))
            last = len(rows)
            self.refused(BadRow, last, with_row(rows, last, rows[-1] + " back back"))
            self.refused(CornerTwice, last, with_row(rows, last, rows[1]))
            self.refused(BadRow, last, rows[:-1])
            self.refused_text(BadRow, last + 1, "\n".join(rows + [""]))
            self.refused_text(BadRow, last + 1, "\n".join(rows + rows[1:]))


if __name__ == "__main__":
    unittest.main()
