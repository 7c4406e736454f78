"""Point 4 and the interface: the refusals, what each stands under, and their fields."""

import copy
import unittest

from curveyard import errors
from curveyard.errors import (
    BadBox, BadRow, CornerTwice, NoEntry, NoThing, OffFloor, TextError, TooWide, Twice, Unmet, YardError,
)

UNDER = {
    YardError: (ValueError,),
    OffFloor: (YardError,),
    TooWide: (YardError,),
    BadBox: (YardError,),
    Twice: (YardError,),
    NoThing: (YardError,),
    NoEntry: (YardError,),
    TextError: (YardError,),
    BadRow: (TextError,),
    CornerTwice: (TextError,),
    Unmet: (YardError,),
}
MADE_WITH_TEXT = (YardError, OffFloor, TooWide, BadBox, Twice, NoThing, NoEntry)
MADE_WITH_ROW = (TextError, BadRow, CornerTwice)


def made(kind):
    if kind in MADE_WITH_TEXT:
        return kind("words")
    if kind in MADE_WITH_ROW:
        return kind(7)
    return kind(1, 2, 3)


class Standing(unittest.TestCase):
    def test_each_has_its_name_and_its_one_base(self):
        for kind, bases in UNDER.items():
            with self.subTest(kind=kind):
                self.assertEqual(kind.__bases__, bases)
                self.assertIs(getattr(errors, kind.__name__), kind)

    def test_each_is_a_class_of_its_own(self):
        self.assertEqual(len(UNDER), 11)
        self.assertEqual(len({kind.__name__ for kind in UNDER}), 11)

    def test_none_stands_under_another_but_as_told(self):
        for kind in UNDER:
            above = {kind, YardError} | ({TextError} if kind in MADE_WITH_ROW else set())
            for other in UNDER:
                with self.subTest(kind=kind, other=other):
                    self.assertEqual(issubclass(kind, other), other in above)

    def test_of_pythons_own_only_the_way_through_value_error(self):
        for kind in UNDER:
            with self.subTest(kind=kind):
                self.assertTrue(issubclass(kind, ValueError))
                self.assertFalse(issubclass(kind, (LookupError, TypeError, ArithmeticError, UnicodeError)))

    def test_raised_and_taken_by_name_and_as_any_refusal(self):
        for kind in UNDER:
            for taken in (kind, YardError, ValueError):
                with self.subTest(kind=kind, taken=taken):
                    with self.assertRaises(taken) as caught:
                        raise made(kind)
                    self.assertIs(type(caught.exception), kind)


class Fields(unittest.TestCase):
    def test_row(self):
        for kind in MADE_WITH_ROW:
            for row in (1, 2, 9, 410):
                with self.subTest(kind=kind, row=row):
                    self.assertEqual(kind(row).row, row)
                    self.assertIs(type(kind(row).row), int)

    def test_unmet(self):
        for first, second, level in ((0, 1, 1), (6, 7, 2), (2, 3, 40)):
            error = Unmet(first, second, level)
            self.assertEqual((error.first, error.second, error.level), (first, second, level))

    def test_two_errors_keep_their_own(self):
        one, other = BadRow(3), BadRow(5)
        self.assertEqual((one.row, other.row), (3, 5))
        near, far = Unmet(0, 1, 2), Unmet(4, 5, 6)
        self.assertEqual((near.first, near.second, near.level), (0, 1, 2))
        self.assertEqual((far.first, far.second, far.level), (4, 5, 6))

    def test_fields_are_there_where_the_error_is_taken(self):
        try:
            raise CornerTwice(4)
        except TextError as error:
            self.assertEqual(error.row, 4)
        try:
            raise Unmet(2, 3, 5)
        except YardError as error:
            self.assertEqual((error.first, error.second, error.level), (2, 3, 5))

    def test_a_copy_has_the_same_fields(self):
        self.assertEqual(copy.copy(BadRow(8)).row, 8)
        error = copy.copy(Unmet(2, 3, 5))
        self.assertEqual((error.first, error.second, error.level), (2, 3, 5))


if __name__ == "__main__":
    unittest.main()
