"""Points 6 and 7: corners and turns, and how they are written."""

import itertools
import unittest

from curveyard.turns import after, corner_of, corner_text, still, turn_of, turn_text, turned, undone
from tests.samples import all_corners, all_turns, check_corner, check_turn

SQUARE_TEXTS = {
    "+x+y": ((0, 0), (1, 0)),
    "+x-y": ((0, 0), (1, 1)),
    "-x+y": ((0, 1), (1, 0)),
    "-x-y": ((0, 1), (1, 1)),
    "+y+x": ((1, 0), (0, 0)),
    "+y-x": ((1, 0), (0, 1)),
    "-y+x": ((1, 1), (0, 0)),
    "-y-x": ((1, 1), (0, 1)),
}
OTHER_SIGNS = list(" *XYZw0,\n") + ["\u2212", "\uff0b", "\u0445"]


class Turning(unittest.TestCase):
    def test_told_ones(self):
        quarter = ((1, 0), (0, 1))
        self.assertEqual(turned(quarter, (0, 0)), (0, 1))
        self.assertEqual(turned(quarter, (0, 1)), (1, 1))
        self.assertEqual(turned(quarter, (1, 1)), (1, 0))
        self.assertEqual(turned(quarter, (1, 0)), (0, 0))
        around = ((1, 0), (2, 0), (0, 1))
        self.assertEqual(turned(around, (1, 0, 0)), (0, 0, 0))
        self.assertEqual(turned(around, (0, 1, 0)), (1, 0, 1))
        self.assertEqual(turned(around, (0, 0, 1)), (0, 1, 1))

    def test_all_turns_at_all_corners(self):
        for dims in (2, 3):
            for turn in all_turns(dims):
                for corner in all_corners(dims):
                    found = turned(turn, corner)
                    check_corner(self, found, dims)
                    for bit in range(dims):
                        axis, flip = turn[bit]
                        wanted = corner[axis] if flip == 0 else 1 - corner[axis]
                        self.assertEqual(found[bit], wanted)

    def test_still(self):
        self.assertEqual(still(2), ((0, 0), (1, 0)))
        self.assertEqual(still(3), ((0, 0), (1, 0), (2, 0)))
        for dims in (2, 3):
            check_turn(self, still(dims), dims)
            for corner in all_corners(dims):
                self.assertEqual(turned(still(dims), corner), corner)

    def test_after_told_ones(self):
        swap = ((1, 0), (0, 0))
        mirror = ((0, 1), (1, 0))
        self.assertEqual(after(swap, mirror), ((1, 0), (0, 1)))
        self.assertEqual(after(mirror, swap), ((1, 1), (0, 0)))

    def test_after_of_each_two(self):
        for dims in (2, 3):
            corners = all_corners(dims)
            for one, other in itertools.product(all_turns(dims), repeat=2):
                both = after(one, other)
                check_turn(self, both, dims)
                found = [turned(both, corner) for corner in corners]
                self.assertEqual(found, [turned(one, turned(other, corner)) for corner in corners])

    def test_after_still(self):
        for dims in (2, 3):
            for turn in all_turns(dims):
                self.assertEqual(after(turn, still(dims)), turn)
                self.assertEqual(after(still(dims), turn), turn)

    def test_undone_told_ones(self):
        self.assertEqual(undone(((1, 0), (0, 1))), ((1, 1), (0, 0)))
        self.assertEqual(undone(((1, 0), (2, 0), (0, 1))), ((2, 1), (0, 0), (1, 0)))

    def test_undone_ahead_and_behind(self):
        for dims in (2, 3):
            for turn in all_turns(dims):
                back = undone(turn)
                check_turn(self, back, dims)
                self.assertEqual(after(back, turn), still(dims))
                self.assertEqual(after(turn, back), still(dims))
                self.assertEqual(undone(back), turn)
                for corner in all_corners(dims):
                    self.assertEqual(turned(back, turned(turn, corner)), corner)
                    self.assertEqual(turned(turn, turned(back, corner)), corner)


class TurnTexts(unittest.TestCase):
    def test_told_ones(self):
        for text, turn in SQUARE_TEXTS.items():
            self.assertEqual(turn_text(turn), text)
            self.assertEqual(turn_of(text, 2), turn)
        self.assertEqual(turn_text(((2, 1), (0, 0), (1, 1))), "-z+x-y")
        self.assertEqual(turn_of("-z+x-y", 3), ((2, 1), (0, 0), (1, 1)))

    def test_every_turn_written_and_read_back(self):
        for dims in (2, 3):
            for turn in all_turns(dims):
                wanted = "".join("+-"[flip] + "xyz"[axis] for axis, flip in turn)
                self.assertEqual(turn_text(turn), wanted)
                self.assertIs(type(turn_text(turn)), str)
                self.assertEqual(turn_of(wanted, dims), turn)
                check_turn(self, turn_of(wanted, dims), dims)

    def test_of_all_texts_of_these_signs_only_those_of_turns(self):
        for dims in (2, 3):
            texts = {turn_text(turn) for turn in all_turns(dims)}
            self.assertEqual(len(texts), {2: 8, 3: 48}[dims])
            for signs in itertools.product("+-xyz", repeat=2 * dims):
                text = "".join(signs)
                self.assertEqual(turn_of(text, dims) is not None, text in texts, text)

    def test_a_sign_more_or_less(self):
        for dims in (2, 3):
            for turn in all_turns(dims):
                text = turn_text(turn)
                for place in range(len(text)):
                    self.assertIsNone(turn_of(text[:place] + text[place + 1:], dims))
                for place in range(len(text) + 1):
                    for sign in list("+-xyz") + OTHER_SIGNS:
                        self.assertIsNone(turn_of(text[:place] + sign + text[place:], dims))

    def test_another_sign_at_each_place(self):
        for dims in (2, 3):
            for turn in all_turns(dims):
                text = turn_text(turn)
                for place in range(len(text)):
                    for sign in OTHER_SIGNS:
                        self.assertIsNone(turn_of(text[:place] + sign + text[place + 1:], dims))

    def test_axis_twice_or_not_there(self):
        for text in ("+x+x", "-x+x", "+y-y", "+x+z", "+z+x", "-z-y", "+z+z"):
            self.assertIsNone(turn_of(text, 2))
        for text in ("+x+y+x", "+x+x+y", "-z+z+x", "+y+y+y", "+x+y+w"):
            self.assertIsNone(turn_of(text, 3))

    def test_the_other_count_of_axes(self):
        for turn in all_turns(2):
            self.assertIsNone(turn_of(turn_text(turn), 3))
        for turn in all_turns(3):
            self.assertIsNone(turn_of(turn_text(turn), 2))
        for text in ("", "+x", "+x+y+z+x", "+x+y+x+y"):
            self.assertIsNone(turn_of(text, 2))
            self.assertIsNone(turn_of(text, 3))

    def test_sign_and_letter_the_other_way_round(self):
        self.assertIsNone(turn_of("x+y+", 2))
        self.assertIsNone(turn_of("xy++", 2))
        self.assertIsNone(turn_of("x-y+z+", 3))


class CornerTexts(unittest.TestCase):
    def test_told_ones(self):
        for text, corner in (("00", (0, 0)), ("01", (0, 1)), ("10", (1, 0)), ("11", (1, 1))):
            self.assertEqual(corner_text(corner), text)
            self.assertEqual(corner_of(text, 2), corner)
        self.assertEqual(corner_text((1, 0, 0)), "100")
        self.assertEqual(corner_of("011", 3), (0, 1, 1))

    def test_every_corner_written_and_read_back(self):
        for dims in (2, 3):
            for corner in all_corners(dims):
                text = corner_text(corner)
                self.assertEqual(text, "".join(str(bit) for bit in corner))
                self.assertEqual(corner_of(text, dims), corner)
                check_corner(self, corner_of(text, dims), dims)

    def test_a_sign_more_or_less(self):
        for dims in (2, 3):
            for corner in all_corners(dims):
                text = corner_text(corner)
                for place in range(dims):
                    self.assertIsNone(corner_of(text[:place] + text[place + 1:], dims))
                for place in range(dims + 1):
                    for sign in list("01") + OTHER_SIGNS:
                        self.assertIsNone(corner_of(text[:place] + sign + text[place:], dims))

    def test_another_sign_at_each_place(self):
        for dims in (2, 3):
            for corner in all_corners(dims):
                text = corner_text(corner)
                for place in range(dims):
                    for sign in list(" 29-+/xO\n") + ["\u0661", "\uff11", "\u00b9"]:
                        self.assertIsNone(corner_of(text[:place] + sign + text[place + 1:], dims))

    def test_the_other_count_of_axes(self):
        for corner in all_corners(2):
            self.assertIsNone(corner_of(corner_text(corner), 3))
        for corner in all_corners(3):
            self.assertIsNone(corner_of(corner_text(corner), 2))
        for text in ("", "0", "0101"):
            self.assertIsNone(corner_of(text, 2))
            self.assertIsNone(corner_of(text, 3))


if __name__ == "__main__":
    unittest.main()
