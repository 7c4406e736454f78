"""Point 38: the rows of answers."""

import unittest

from curveyard.report import answer_row

# The greatest number that a floor of three axes has at level 60, and a coordinate of its last place.
LAST = 2 ** 180 - 1
EDGE = 2 ** 60 - 1
NINES = 10 ** 60 - 1

ROWS = (
    (("ok",), "ok"),
    (("refused", "box"), "refused box"),
    (("refused", "twice"), "refused twice"),
    (("refused", "thing"), "refused thing"),
    (("refused", "floor"), "refused floor"),
    (("names", []), "none"),
    (("names", ["mill"]), "mill"),
    (("names", ["none"]), "none"),
    (("names", ["a", "b"]), "a b"),
    (("names", ["abcdefghijkl", "barn", "z"]), "abcdefghijkl barn z"),
    (("box", (0, 0), (0, 0)), "0,0 0,0"),
    (("box", (1, 20), (3, 45)), "1,20 3,45"),
    (("box", (1, 20, 3), (3, 45, 6)), "1,20,3 3,45,6"),
    (("box", (0, EDGE), (EDGE, EDGE)), f"0,{EDGE} {EDGE},{EDGE}"),
    (("near", []), "none"),
    (("near", [(0, "mill")]), "0 mill"),
    (("near", [(0, "mill"), (3, "barn")]), "0 mill 3 barn"),
    (("near", [(1, "a"), (1, "b"), (62, "c")]), "1 a 1 b 62 c"),
    (("near", [(EDGE, "a"), (NINES, "b")]), f"{EDGE} a {NINES} b"),
    (("pairs", []), "none"),
    (("pairs", [("a", "b")]), "a b"),
    (("pairs", [("a", "b"), ("a", "c")]), "a b, a c"),
    (("pairs", [("barn", "mill"), ("barn", "well"), ("mill", "well")]), "barn mill, barn well, mill well"),
    (("number", 0), "0"),
    (("number", 20), "20"),
    (("number", 4095), "4095"),
    (("number", LAST), str(LAST)),
    (("number", 10 ** 59), "1" + "0" * 59),
    (("place", (0, 0)), "0,0"),
    (("place", (63, 7)), "63,7"),
    (("place", (0, 0, 0)), "0,0,0"),
    (("place", (15, 0, 8)), "15,0,8"),
    (("place", (EDGE, 0, NINES)), f"{EDGE},0,{NINES}"),
    (("spans", []), "none"),
    (("spans", [(0, 0)]), "0-0"),
    (("spans", [(7, 7)]), "7-7"),
    (("spans", [(2, 2), (7, 8), (11, 130)]), "2-2 7-8 11-130"),
    (("spans", [(0, EDGE), (LAST, NINES)]), f"0-{EDGE} {LAST}-{NINES}"),
)


class Rows(unittest.TestCase):
    def test_told_ones(self):
        for answer, row in ROWS:
            self.assertEqual(answer_row(answer), row, answer)
            self.assertIs(type(answer_row(answer)), str)

    def test_long_lists(self):
        names = ["abcdefghijkl"[:at] for at in range(1, 13)]
        self.assertEqual(answer_row(("names", names)), " ".join(names))
        self.assertEqual(answer_row(("near", list(enumerate(names)))).split(" ")[::2], [str(at) for at in range(12)])
        self.assertEqual(answer_row(("near", list(enumerate(names)))).split(" ")[1::2], names)
        pairs = [("a", name) for name in names]
        self.assertEqual(answer_row(("pairs", pairs)).split(", "), ["a " + name for name in names])
        spans = [(3 * at, 3 * at + 1) for at in range(1000)]
        self.assertEqual([tuple(map(int, span.split("-"))) for span in answer_row(("spans", spans)).split(" ")], spans)

    def test_nothing_is_changed(self):
        for answer, row in ROWS:
            before = tuple([list(value) if isinstance(value, list) else value for value in answer])
            answer_row(answer)
            self.assertEqual(answer, before)


if __name__ == "__main__":
    unittest.main()
