"""Names and coins: promises 4 and 6."""

import unittest

from pursewright.words import is_coins, is_name
from tests.helper import KEPT

OTHER_SIGNS = ["A", "Z", "0", "9", " ", "\n", "\t", "_", "-", "|", ":", ";", "'", "~", "`", "{", "@", "[", "."]


class NameTest(unittest.TestCase):
    def yes(self, text):
        self.assertIs(is_name(text), True, repr(text))

    def no(self, text):
        self.assertIs(is_name(text), False, repr(text))

    def test_lengths(self):
        for letter in "abcdefghijklmnopqrstuvwxyz":
            for length in range(1, 9):
                self.yes(letter * length)
            self.no(letter * 9)
            self.no(letter * 80)
        self.yes("abcdefgh")
        self.no("abcdefghi")
        self.no("")

    def test_kept_words(self):
        self.assertEqual(len(KEPT), 12)
        for word in KEPT:
            self.no(word)

    def test_kept_words_with_a_letter_more_or_fewer(self):
        for word in KEPT:
            self.yes(word + "s")
            self.yes("a" + word)
            self.yes(word + word)
            self.yes(word[1:])
            self.yes(word[:-1])
            self.no(word.upper())
            self.no(word.capitalize())

    def test_words_that_are_names(self):
        for word in ("gave", "short", "great", "late", "lets", "row", "kinds", "purse", "none", "true"):
            self.yes(word)

    def test_other_signs(self):
        for sign in OTHER_SIGNS + ["\u00e4", "\u00df", "\u0430", "\u0661", "\u00aa"]:
            for text in (sign, sign + "ab", "ab" + sign, "a" + sign + "b", sign + "kind"):
                self.no(text)

    def test_every_sign(self):
        for sign in [chr(number) for number in range(0x180)]:
            due = "a" <= sign <= "z"
            for text in (sign, sign + "ab", "ab" + sign, "a" + sign + "b"):
                self.assertIs(is_name(text), due, repr(text))


class CoinsTest(unittest.TestCase):
    def yes(self, text):
        self.assertIs(is_coins(text), True, repr(text))

    def no(self, text):
        self.assertIs(is_coins(text), False, repr(text))

    def test_lengths(self):
        for figure in "123456789":
            for length in range(1, 8):
                self.yes(figure * length)
            self.no(figure * 8)
        self.yes("9999999")
        self.no("10000000")
        self.no("")

    def test_noughts(self):
        for text in ("0", "00", "01", "0000001", "007", "0000000", "00000001"):
            self.no(text)
        for text in ("10", "100", "1000000", "101", "9000009", "1001000"):
            self.yes(text)

    def test_every_number_of_four_figures(self):
        for number in range(1, 10000):
            self.yes(str(number))

    def test_other_signs(self):
        others = ["+", "-", "_", ".", ",", " ", "\n", "\t", "a", "e", "x", "\u0661", "\u00b2"]
        for sign in others:
            for text in (sign, sign + "12", "12" + sign, "1" + sign + "2"):
                self.no(text)

    def test_every_sign(self):
        for sign in [chr(number) for number in range(0x180)]:
            due = "0" <= sign <= "9"
            self.assertIs(is_coins(sign), due and sign != "0", repr(sign))
            self.assertIs(is_coins(sign + "12"), due and sign != "0", repr(sign))
            for text in ("12" + sign, "1" + sign + "2"):
                self.assertIs(is_coins(text), due, repr(text))


class SameTest(unittest.TestCase):
    def test_asked_again(self):
        for text in ("abc", "kind", "", "12", "0"):
            self.assertEqual([is_name(text) for _ in range(3)], [is_name(text)] * 3)
            self.assertEqual([is_coins(text) for _ in range(3)], [is_coins(text)] * 3)


if __name__ == "__main__":
    unittest.main()
