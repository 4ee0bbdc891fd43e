"""[S1.5] and the interface: splitsays/lexemes.py."""

import unittest

from splitsays.errors import BadText
from splitsays.lexemes import lexemes

SIGNS = [chr(code) for code in range(32, 127)] + ["\t", "\n"]


def words_of(text):
    return [lexeme for _, lexeme, _ in lexemes(text)]


class Found(unittest.TestCase):
    def test_nothing(self):
        for text in ("", " ", "\n", "  \n \n\n "):
            self.assertEqual(lexemes(text), [])

    def test_each_sort(self):
        self.assertEqual(lexemes("ab"), [("word", "ab", 0)])
        self.assertEqual(lexemes("12"), [("number", "12", 0)])
        for sign in "{}();-":
            self.assertEqual(lexemes(sign), [("sign", sign, 0)])
        self.assertEqual(lexemes("row at -3 { left (a b1);"), [
            ("word", "row", 0), ("word", "at", 4), ("sign", "-", 7), ("number", "3", 8), ("sign", "{", 10),
            ("word", "left", 12), ("sign", "(", 17), ("word", "a", 18), ("word", "b1", 20), ("sign", ")", 22),
            ("sign", ";", 23),
        ])

    def test_the_examples(self):
        self.assertEqual(lexemes("12ab"), [("number", "12", 0), ("word", "ab", 2)])
        self.assertEqual(lexemes("-12"), [("sign", "-", 0), ("number", "12", 1)])
        self.assertEqual(lexemes("007"), [("number", "0", 0), ("number", "0", 1), ("number", "7", 2)])

    def test_signs_are_lexemes_by_themselves(self):
        self.assertEqual(words_of("{{}}(();;--"), list("{{}}(();;--"))
        self.assertEqual(words_of("a(b)c;d-e{f}"), list("a(b)c;d-e{f}"))

    def test_words(self):
        for text in ("a", "z9", "a0b1", "abcdefghijkl", "a23456789012", "a00000000000"):
            self.assertEqual(lexemes(text), [("word", text, 0)])
            self.assertEqual(lexemes(" " + text + "\n"), [("word", text, 1)])

    def test_numbers(self):
        for text in ("0", "1", "9", "10", "90", "100000", "12345678901234567890", "1" + "0" * 9000):
            self.assertEqual(lexemes(text), [("number", text, 0)])
            self.assertEqual(lexemes(text + "-" + text), [
                ("number", text, 0), ("sign", "-", len(text)), ("number", text, len(text) + 1),
            ])

    def test_zeros_ahead(self):
        self.assertEqual(words_of("00"), ["0", "0"])
        self.assertEqual(words_of("0120"), ["0", "120"])
        self.assertEqual(words_of("0a0"), ["0", "a0"])
        self.assertEqual(words_of("-0 -00"), ["-", "0", "-", "0", "0"])
        self.assertEqual(lexemes("0" * 5000), [("number", "0", place) for place in range(5000)])
        self.assertEqual(words_of("0" + "9" * 5000), ["0", "9" * 5000])

    def test_a_number_goes_on_whatever_comes_then(self):
        self.assertEqual(words_of("12abcdefghijkl"), ["12", "abcdefghijkl"])
        self.assertEqual(words_of("7(8)9"), ["7", "(", "8", ")", "9"])
        self.assertEqual(words_of("a1 1a"), ["a1", "1", "a"])

    def test_blanks_and_line_feeds(self):
        self.assertEqual(lexemes("\n a \n\nb 1 \n 2\n"), [
            ("word", "a", 2), ("word", "b", 6), ("number", "1", 8), ("number", "2", 12),
        ])
        self.assertEqual(words_of("a b"), ["a", "b"])
        self.assertEqual(words_of("1\n2"), ["1", "2"])

    def test_great_texts(self):
        self.assertEqual(len(lexemes("(a1 b) ; " * 2200)), 5 * 2200)
        self.assertEqual(lexemes("7" * 20000), [("number", "7" * 20000, 0)])
        self.assertEqual(lexemes(" " * 20000), [])

    def test_what_is_returned_is_new_and_plain(self):
        text = "row { 12"
        one, other = lexemes(text), lexemes(text)
        self.assertEqual(one, other)
        self.assertIsNot(one, other)
        one.append(7)
        self.assertEqual(lexemes(text), other)
        for found in other:
            self.assertEqual([type(found)] + [type(value) for value in found], [tuple, str, str, int])


class Refused(unittest.TestCase):
    def check(self, text, place):
        with self.assertRaises(BadText) as caught:
            lexemes(text)
        self.assertEqual(caught.exception.place, place, text[:50])
        self.assertIs(type(caught.exception.place), int)

    def test_each_other_sign(self):
        for sign in SIGNS:
            if sign in "abcdefghijklmnopqrstuvwxyz0123456789{}();- \n":
                continue
            self.check(sign, 0)
            self.check("ab " + sign, 3)
            self.check("ab" + sign + "c", 2)
            self.check("12" + sign, 2)
            self.check("( \n" + sign + " )", 3)

    def test_tabs(self):
        self.check("\t", 0)
        self.check("a\tb", 1)
        self.check(" \n\t", 2)

    def test_capital_letters(self):
        self.check("A", 0)
        self.check("aB", 1)
        self.check("row at 0 { Left", 11)

    def test_words_that_are_too_long(self):
        self.check("abcdefghijklm", 0)
        self.check("12abcdefghijklm", 2)
        self.check("a234567890123", 0)
        self.check("ab (abcdefghijklm", 4)
        self.check("x abcdefghijklm y", 2)
        self.check("a" * 20000, 0)
        self.check("7" * 9000 + "a" * 13, 9000)

    def test_the_first_one_is_told(self):
        self.check("a $ # abcdefghijklm", 2)
        self.check("a abcdefghijklm $", 2)
        self.check(" \n \n!?", 4)

    def test_the_same_error_again(self):
        for _ in range(2):
            self.check("row $", 4)


if __name__ == "__main__":
    unittest.main()
