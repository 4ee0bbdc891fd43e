"""[0.3] and the interface: splitsays/words.py."""

import unittest

from splitsays.errors import BadRow
from splitsays.words import is_integer, is_number, is_word
from tests.plain import STRANGE

# Every sign that a passed string may have.
SIGNS = [chr(code) for code in range(32, 127)] + ["\t", "\n"]
SMALL = "abcdefghijklmnopqrstuvwxyz"


class Words(unittest.TestCase):
    def test_words(self):
        for text in ("a", "z", "ab", "a1", "z0", "lamp", "row", "at", "a23456789012", "abcdefghijkl", "zzzzzzzzzzzz"):
            self.assertIs(is_word(text), True, text)

    def test_length(self):
        for many in range(0, 30):
            self.assertIs(is_word("a" * many), 1 <= many <= 12)
            self.assertIs(is_word("a" + "9" * many), many <= 11)

    def test_each_sign_first_and_later(self):
        for sign in SIGNS:
            self.assertIs(is_word(sign), sign in SMALL, sign)
            for text in ("a" + sign, "a" + sign + "b", "abc" + sign + "abcdefgh"):
                self.assertIs(is_word(text), sign in SMALL + "0123456789", text)

    def test_no_words(self):
        for text in ("", "A", "aB", "Lamp", "1", "1a", "0", "a b", " a", "a ", "a\n", "\na", "a\t", "a_b", "_", "-a",
                     "abcdefghijklm", "a234567890123", "a.b", "(", "{}"):
            self.assertIs(is_word(text), False, text)

    def test_other_values(self):
        for value in STRANGE + [0, 1, -1, 10 ** 40, (), ("a",), BadRow(("a",))]:
            self.assertIs(is_word(value), False)


class Integers(unittest.TestCase):
    def test_integers(self):
        for value in (0, 1, 2, 17, 10 ** 30, 10 ** 40 - 1, 10 ** 400):
            self.assertIs(is_integer(value), True)
            self.assertIs(is_number(value), True)

    def test_integers_below_0_are_no_numbers(self):
        for value in (-1, -2, -17, -10 ** 30, 1 - 10 ** 40):
            self.assertIs(is_integer(value), True)
            self.assertIs(is_number(value), False)

    def test_truths_are_neither(self):
        for value in (True, False):
            self.assertIs(is_integer(value), False)
            self.assertIs(is_number(value), False)

    def test_other_values(self):
        for value in STRANGE + ["", "a", "1", "0", "-1", (), (0,), BadRow((0,))]:
            self.assertIs(is_integer(value), False)
            self.assertIs(is_number(value), False)


if __name__ == "__main__":
    unittest.main()
