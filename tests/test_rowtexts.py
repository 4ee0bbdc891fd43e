"""[S1.4], [S1.6], [0.3] and the interface: splitsays/rowtexts.py."""

import unittest

from splitsays.errors import BadRow, BadText
from splitsays.rowtexts import lot_text, read_row, row_text
from tests.plain import A, AB, B, FAR, LETTERS, NONE, R, great_row, rows
from tests.plaintexts import LEXEME, LONG, ROW, first_wrong, spoiled

WRITTEN_R = "row at 0 {\nleft ();\nmiddle (a) (a b);\nright (b) ();\n}\n"
WHOLE = "row at 0 { left ( ) ; middle ( a ) ( a b ) ; right ( b ) ( ) ; }"


class Written(unittest.TestCase):
    def test_the_row_of_the_document(self):
        self.assertEqual(row_text(R), WRITTEN_R)

    def test_more_by_hand(self):
        for row, text in [
            ((0, (NONE,), (), (NONE,)), "row at 0 {\nleft ();\nmiddle;\nright ();\n}\n"),
            ((-5, (A, B), (), (AB,)), "row at -5 {\nleft (a) (b);\nmiddle;\nright (a b);\n}\n"),
            ((12, (("row",),), (("at", "left"),), (("middle", "right"), NONE, NONE)),
             "row at 12 {\nleft (row);\nmiddle (at left);\nright (middle right) () ();\n}\n"),
        ]:
            self.assertEqual(row_text(row), text)
            self.assertEqual(read_row(text), row)

    def test_a_row_is_written_as_it_is(self):
        row = (5, (A, A), (A, NONE), (NONE, NONE))
        self.assertEqual(row_text(row), "row at 5 {\nleft (a) (a);\nmiddle (a) ();\nright () ();\n}\n")
        self.assertEqual(read_row(row_text(row)), row)

    def test_firsts(self):
        for first in (-FAR, -10, -1, 0, 1, 10, FAR):
            text = row_text((first,) + R[1:])
            self.assertEqual(text, WRITTEN_R.replace("0", str(first)))
            self.assertEqual(read_row(text), (first,) + R[1:])

    def test_there_and_back(self):
        for row in rows(50, 60, letters=LETTERS) + [great_row(51, first) for first in (-FAR, 0, FAR)]:
            self.assertEqual(read_row(row_text(row)), row)

    def test_lots(self):
        for lot, text in ((NONE, "()"), (A, "(a)"), (AB, "(a b)"), (LETTERS, "(a b c d4 e f letter z9z9z9z9z9z9)")):
            self.assertEqual(lot_text(lot), text)
            self.assertIs(type(lot_text(lot)), str)


class Read(unittest.TestCase):
    def test_other_gaps(self):
        for gap in (" ", "\n", " \n\n  "):
            self.assertEqual(read_row(gap + gap.join(LEXEME.findall(WRITTEN_R)) + gap), R)
        self.assertEqual(read_row("row at 0{left();middle(a)(a b);right(b)();}"), R)
        self.assertEqual(read_row("row at- 3{left();middle;right(b);}"), (-3, (NONE,), (), (B,)))

    def test_it_is_read_as_it_is_told(self):
        row = read_row("row at 1 { left (a) () ; middle ; right (a) () ; }")
        self.assertEqual(row, (1, (A, NONE), (), (A, NONE)))

    def test_what_is_returned_is_plain(self):
        first, *parts = read_row(WRITTEN_R)
        self.assertIs(type(first), int)
        for part in parts:
            self.assertEqual({type(part)} | {type(lot) for lot in part}, {tuple})

    def test_numbers_of_forty_digits(self):
        text = "row at -" + "7" * 40 + " { left () ; middle ; right () ; }"
        self.assertEqual(read_row(text)[0], -int("7" * 40))

    def test_great_texts(self):
        text = "row at 0 { left (" + "a " * 9900 + ") ; middle ; right () ; }"
        with self.assertRaises(BadRow) as caught:
            read_row(text)
        self.assertEqual(caught.exception.path, (1, 0))
        text = "row at 0 { left (" + ") (" * 6600 + ") ; middle ; right () ; }"
        self.assertEqual(read_row(text), (0, (NONE,) * 6601, (), (NONE,)))


class WrongPlaces(unittest.TestCase):
    def check(self, text, place):
        for _ in range(2):
            with self.assertRaises(BadText) as caught:
                read_row(text)
            self.assertEqual(caught.exception.place, place, text[:60])
            self.assertIs(type(caught.exception.place), int)

    def test_the_examples(self):
        self.check("row { $", 4)
        self.check("row at -0 { left", 8)
        self.check("row at 0 { left ;", 16)
        self.check("row at 3 { left () (a b ! $", 24)
        self.check("row at 0 { left () ; middle ; right (a) ; } #", 44)

    def test_minus_zero(self):
        self.check("row at - 0 { left", 9)
        self.check("row at -00", 8)
        self.check("row at --1", 8)
        self.check("row at - x", 9)
        self.check("row at -", 8)

    def test_each_part_that_is_missing(self):
        told = WHOLE.split(" ")
        for many in range(len(told)):
            text = " ".join(told[:many])
            self.check(text, len(text))
            self.check(text + " \n ", len(text) + 3)
            self.check(text + " - -", len(text) + 1 + 2 * (many == 2))

    def test_sides_without_lots(self):
        self.check("row at 0 { left () ; middle ; right ; }", 36)
        self.check("row at 0 { left () ; middle ; right }", 36)
        self.check("row at 0 { left middle", 16)
        self.check("row at 0 { left () ; right", 21)

    def test_numbers_and_signs_in_lots(self):
        self.check("row at 0 { left (1", 17)
        self.check("row at 0 { left (a 1", 19)
        self.check("row at 0 { left (a ( ", 19)
        self.check("row at 0 { left () - ", 19)
        self.check("row at 0 { left (a1 2a)", 20)

    def test_zeros(self):
        self.check("row at 007 {", 8)
        self.check("row at 07 {", 8)

    def test_what_comes_behind(self):
        self.check(WHOLE + ";", len(WHOLE))
        self.check(WHOLE + "\n\nrow", len(WHOLE) + 2)
        self.check(WHOLE + " \t", len(WHOLE) + 1)

    def test_a_wrong_lexeme_ahead_of_a_wrong_sign_counts(self):
        self.check("row row $", 4)
        self.check("$ row", 0)
        self.check("row abcdefghijklm", 4)
        self.check("row at abcdefghijklm", 7)
        self.check("", 0)
        self.check(" \n ", 3)

    def test_numbers_of_thousands_of_digits(self):
        long = "9" * 6000
        self.check("row " + long, 4)
        self.check("row at 0 { left (" + long, 17)
        self.check("row { " + long + " " + long, 4)
        self.check("row at 5 " + long + " $", 9)
        self.check(long, 0)
        self.check("row at 0 0" + long, 9)
        self.check("row at -" + long, 8 + len(long))
        self.check("row at " + long + " { right", 10 + len(long))

    def test_forms_of_another_sort(self):
        self.check("sheet { yes ; }", 0)
        self.check("Row at 0", 0)
        self.check("rows at 0", 0)

    def test_many_spoiled_texts(self):
        wrong = 0
        for seed, row in enumerate([R, (-3, (A,), (), (B,)), (7, (A, AB), (NONE,), (B,))]):
            for text in spoiled(row_text(row), seed, 700):
                place = first_wrong(text, ROW)
                if place is None and LONG not in text:
                    try:
                        read_row(text)
                    except BadRow:
                        pass
                elif place is not None:
                    self.check(text, place)
                    wrong += 1
        self.assertGreater(wrong, 1000)


class WrongRows(unittest.TestCase):
    def check(self, text, path):
        for _ in range(2):
            with self.assertRaises(BadRow) as caught:
                read_row(text)
            self.assertEqual(caught.exception.path, path)

    def test_letters_told_twice_or_in_another_sequence(self):
        self.check("row at 0 { left (a a) ; middle ; right () ; }", (1, 0))
        self.check("row at 0 { left (b a) ; middle ; right () ; }", (1, 0))
        self.check("row at 0 { left () (a) (a b a) ; middle ; right () ; }", (1, 2))
        self.check("row at 0 { left () ; middle () (b a) ; right (c c) ; }", (2, 1))
        self.check("row at 0 { left () ; middle () ; right () () () (a10 a2 a1) ; }", (3, 3))

    def test_the_text_counts_first(self):
        for text, place in (("row at 0 { left (b a) ; middle ; right () ; } x", 46),
                            ("row at 0 { left (b a) ; middle ; right () ; ", 44)):
            with self.assertRaises(BadText) as caught:
                read_row(text)
            self.assertEqual(caught.exception.place, place)


if __name__ == "__main__":
    unittest.main()
