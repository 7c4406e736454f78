"""Points 3 and 5: numbers and words as texts write them."""

import string
import unittest

from curveyard.figures import is_word, number_of

# Signs beside the figures and letters, signs that Python's own int passes over,
# and figures and letters of other scripts.
NO_FIGURES = list("/: +-_.,aAxz\n\t\0") + ["\u00b2", "\u0663", "\uff11", "\u00a0", "\u2160"]
NO_LETTERS = list("`{ @[-_.,0AZ9\n\t\0") + ["\u00e4", "\u00df", "\u0430", "\uff41", "\u00aa"]


class Numbers(unittest.TestCase):
    def same(self, found, number):
        self.assertEqual(found, number)
        self.assertIs(type(found), int)

    def test_one_sign(self):
        for number, text in enumerate("0123456789"):
            self.same(number_of(text), number)

    def test_many_signs(self):
        for number in (10, 11, 99, 100, 907, 1024, 65536, 1234567890, 9876543210):
            self.same(number_of(str(number)), number)

    def test_sixty_signs(self):
        for text in ("1" + "0" * 59, "9" * 60, "1234567890" * 6):
            self.same(number_of(text), int(text))
        self.same(number_of("9" * 59), 10 ** 59 - 1)

    def test_sixty_one_signs_and_more(self):
        for text in ("1" + "0" * 60, "9" * 61, "1" * 62, "7" * 5000):
            self.assertIsNone(number_of(text))
            self.assertIsNone(number_of(text, None))
            self.assertIsNone(number_of(text, 10 ** 70))

    def test_the_empty_text(self):
        self.assertIsNone(number_of(""))
        self.assertIsNone(number_of("", 5))

    def test_nought_ahead(self):
        self.same(number_of("0"), 0)
        for text in ("00", "01", "09", "007", "000", "0" * 60, "0" + "1" * 59, "0" * 61):
            self.assertIsNone(number_of(text))
        for text in ("10", "100", "101", "1001"):
            self.same(number_of(text), int(text))

    def test_another_sign_at_each_place(self):
        for text in ("4", "42", "123", "1234567", "5" * 60):
            for place in range(len(text)):
                for sign in NO_FIGURES:
                    with self.subTest(text=text, place=place, sign=sign):
                        self.assertIsNone(number_of(text[:place] + sign + text[place + 1:]))

    def test_another_sign_between_ahead_and_behind(self):
        for place in range(4):
            for sign in NO_FIGURES:
                with self.subTest(place=place, sign=sign):
                    self.assertIsNone(number_of("123"[:place] + sign + "123"[place:]))

    def test_no_other_way_to_write_a_number(self):
        for text in ("-0", "+1", "-1", "1_000", "0x1", "0b1", "1e3", "1.0", " 1", "1 ", "1\n", "\n", " ", "one"):
            self.assertIsNone(number_of(text))

    def test_most_left_out_or_none(self):
        for number in (0, 1, 999, 10 ** 59, 10 ** 60 - 1):
            self.same(number_of(str(number)), number)
            self.same(number_of(str(number), None), number)
            self.same(number_of(str(number), most=None), number)

    def test_most_at_the_number_itself(self):
        for number in (1, 2, 9, 10, 999, 1000, 10 ** 59, 10 ** 60 - 1):
            text = str(number)
            self.same(number_of(text, number), number)
            self.same(number_of(text, number + 1), number)
            self.same(number_of(text, most=number), number)
            self.assertIsNone(number_of(text, number - 1))
            self.assertIsNone(number_of(text, most=number - 1))

    def test_most_goes_by_number_not_by_text(self):
        self.same(number_of("9", 10), 9)
        self.assertIsNone(number_of("10", 9))
        self.same(number_of("60", 500), 60)

    def test_most_nought(self):
        self.same(number_of("0", 0), 0)
        self.same(number_of("0", 1), 0)
        for text in ("1", "2", "10", "9" * 60):
            self.assertIsNone(number_of(text, 0))

    def test_most_lets_no_other_text_pass(self):
        for text in ("", "01", "x", "1x", "-1", "1" * 61):
            self.assertIsNone(number_of(text, 10 ** 80))


class Words(unittest.TestCase):
    def test_each_letter(self):
        for letter in string.ascii_lowercase:
            self.assertIs(is_word(letter), True)

    def test_lengths(self):
        for many in range(1, 13):
            self.assertIs(is_word("abcdefghijklmnopqrstuvwxyz"[-many:]), True)
            self.assertIs(is_word("z" * many), True)
        for many in (0, 13, 14, 26, 500):
            self.assertIs(is_word("q" * many), False)

    def test_another_sign_at_each_place(self):
        for text in ("a", "no", "box", "abcdefghijkl"):
            for place in range(len(text)):
                for sign in NO_LETTERS:
                    with self.subTest(text=text, place=place, sign=sign):
                        self.assertIs(is_word(text[:place] + sign + text[place + 1:]), False)

    def test_capitals_figures_and_blanks(self):
        for text in ("Box", "BOX", "boX", "box1", "1", "a b", " a", "a ", "a\n", "a,b", " "):
            self.assertIs(is_word(text), False)


if __name__ == "__main__":
    unittest.main()
