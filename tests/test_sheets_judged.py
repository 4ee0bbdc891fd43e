"""[S2.1], [S2.6], [0.3] and the interface: check_sheet."""

import unittest

from splitsays.errors import BadRow, BadSheet, BadText
from splitsays.sheets import check_sheet
from tests.plain import R, STRANGE, nested
from tests.plainsheets import K, LOOSE, YES, chained, sheets

WORDS = ("letter", "yes", "not", "and", "or", "until", "since")
PAIRS = ("and", "or", "until", "since")
# Values of all kinds, none of which is a word or a number.
OTHERS = STRANGE + ["", "A", "1", "a b", "a\n", "abcdefghijklm", -1, -10 ** 40, BadText(0)]


class Sheets(unittest.TestCase):
    def check(self, value, path):
        kept = repr(value)
        for _ in range(2):
            with self.assertRaises(BadSheet) as caught:
                check_sheet(value)
            self.assertEqual(caught.exception.path, path, value)
            self.assertIs(type(caught.exception.path), tuple)
            self.assertIs(type(caught.exception), BadSheet)
        self.assertEqual(repr(value), kept)

    def test_sheets(self):
        for value in [K, YES, LOOSE, (("letter", "yes"),), (("letter", "abcdefghijkl"),), YES * 70,
                      YES + (("and", 0, 0), ("or", 1, 0), ("until", 0, 2), ("since", 3, 3), ("not", 4)),
                      chained(20000)] + sheets(60, 100, lines=40):
            self.assertIsNone(check_sheet(value))

    def test_no_tuple_or_without_members(self):
        for value in ([], (), None, 0, "", "yes", {}, [("yes",)], list(K), {0: ("yes",)}, True, BadRow((0,)),
                      nested([], 40, list), nested("a", 40, dict)):
            self.check(value, ())

    def test_lines_that_are_no_tuples_or_begin_with_no_such_word(self):
        for line in STRANGE + [(), "yes", "letter", ["yes"], ("Yes",), ("",), ("letters", "a"), ("a",), (("yes",),),
                               (["yes"],), ({},), ({"yes": 1}, 0), (True,), (0,), ("always",), R, K]:
            self.check((line,), (0,))
            self.check((("yes",), ("not", 0), line, None), (2,))

    def test_lines_with_too_few_or_too_many_members(self):
        for word in WORDS:
            right = {"yes": 1, "letter": 2, "not": 2}.get(word, 3)
            for many in range(1, 6):
                line = (word,) + (("a",) if word == "letter" else (0,)) * (many - 1)
                if many == right:
                    self.assertIsNone(check_sheet(YES + (line,)))
                else:
                    self.check(YES + (line,), (1,))

    def test_the_number_of_members_counts_ahead_of_what_they_are(self):
        self.check(YES + (("and", 5),), (1,))
        self.check(YES + (("letter", 5, 5),), (1,))
        self.check(YES + (("not", "a", 0),), (1,))

    def test_letters_that_are_no_words(self):
        for value in OTHERS + [0, 1]:
            self.check((("letter", value),), (0, 1))
            self.check(K + (("letter", value), None), (6, 1))

    def test_numbers_of_no_earlier_lines(self):
        for value in OTHERS + ["a", 3, 4, 10 ** 40]:
            self.check(YES * 3 + (("not", value),), (3, 1))
            for word in PAIRS:
                self.check(YES * 3 + ((word, value, 0),), (3, 1))
                self.check(YES * 3 + ((word, value, value),), (3, 1))
                self.check(YES * 3 + ((word, 2, value),), (3, 2))

    def test_truths_are_no_numbers(self):
        for value in (True, False):
            self.check(YES * 3 + (("not", value),), (3, 1))
            self.check(YES * 3 + (("until", value, 0),), (3, 1))
            self.check(YES * 3 + (("until", 0, value),), (3, 2))
            self.check(YES * 3 + (("letter", value),), (3, 1))

    def test_the_first_line_has_no_earlier_one(self):
        self.check((("not", 0),), (0, 1))
        for word in PAIRS:
            self.check(((word, 0, 0),), (0, 1))

    def test_the_first_wrong_part_is_told(self):
        self.check((("yes",), ("and", 0, 1), ("not", 7)), (1, 2))
        self.check((("letter", "A"), 5), (0, 1))
        self.check((("yes",), 5, ("letter", "A")), (1,))

    def test_lines_that_are_not_needed_are_looked_at_too(self):
        self.check((("yes",), ("not", 1), ("yes",)), (1, 1))

    def test_far_behind(self):
        self.check(chained(20000) + (("since", 0, 10 ** 40),), (len(chained(20000)), 2))


if __name__ == "__main__":
    unittest.main()
