"""[S2.5], [S1.6], [0.3] and the interface: splitsays/sheettexts.py."""

import unittest

from splitsays.errors import BadSheet, BadText
from splitsays.sheettexts import read_sheet, sheet_text
from tests.plainsheets import K, LETTER_A, LOOSE, YES, chained, sheets
from tests.plaintexts import LEXEME, SHEET, first_wrong, spoiled

WRITTEN_K = "sheet {\nletter a;\nletter b;\nyes;\nuntil 1 2;\nand 0 3;\nsince 4 2;\n}\n"
FORMS = ("letter", "yes", "not", "and", "or", "until", "since", "sheet", "row", "at", "left", "middle", "right")


class Written(unittest.TestCase):
    def test_the_sheet_of_the_document(self):
        self.assertEqual(sheet_text(K), WRITTEN_K)
        self.assertEqual(WRITTEN_K.count("\n"), 8)

    def test_each_word(self):
        self.assertEqual(sheet_text(YES + (("not", 0), ("or", 1, 0), ("since", 2, 2))),
                         "sheet {\nyes;\nnot 0;\nor 1 0;\nsince 2 2;\n}\n")
        self.assertEqual(sheet_text(LETTER_A), "sheet {\nletter a;\n}\n")

    def test_lines_that_are_not_needed_are_written(self):
        self.assertEqual(sheet_text(YES * 3), "sheet {\nyes;\nyes;\nyes;\n}\n")

    def test_there_and_back(self):
        for sheet in [K, YES, LOOSE] + sheets(70, 60, lines=60):
            self.assertEqual(read_sheet(sheet_text(sheet)), sheet)

    def test_sheets_of_thousands_of_lines(self):
        sheet = chained(20000)
        text = sheet_text(sheet)
        self.assertEqual(text.count("\n"), len(sheet) + 2)
        self.assertEqual(read_sheet(text), sheet)


class Read(unittest.TestCase):
    def test_other_gaps(self):
        for gap in (" ", "\n", " \n\n  "):
            self.assertEqual(read_sheet(gap + gap.join(LEXEME.findall(WRITTEN_K)) + gap), K)
        self.assertEqual(read_sheet("sheet{letter a;yes;until 0 1;}"), LETTER_A + YES + (("until", 0, 1),))
        self.assertEqual(read_sheet("sheet{yes;and 0 0;or 1 0;not 2;}"),
                         YES + (("and", 0, 0), ("or", 1, 0), ("not", 2)))

    def test_numbers_beside_each_other(self):
        # 00 are two numbers, and 10 is one.
        self.assertEqual(read_sheet("sheet { yes ; and 00 ; }"), YES + (("and", 0, 0),))
        self.assertEqual(read_sheet("sheet {" + "yes;" * 11 + "and 010;}"), YES * 11 + (("and", 0, 10),))

    def test_letters_that_are_words_of_forms(self):
        for word in FORMS:
            self.assertEqual(read_sheet(f"sheet {{ letter {word} ; }}"), (("letter", word),))
            self.assertEqual(sheet_text((("letter", word),)), f"sheet {{\nletter {word};\n}}\n")

    def test_what_is_returned_is_plain(self):
        sheet = read_sheet(WRITTEN_K)
        self.assertEqual({type(sheet)} | {type(line) for line in sheet}, {tuple})
        self.assertEqual([type(member) for member in sheet[3]], [str, int, int])


class WrongPlaces(unittest.TestCase):
    def check(self, text, place):
        for _ in range(2):
            with self.assertRaises(BadText) as caught:
                read_sheet(text)
            self.assertEqual(caught.exception.place, place, text[:60])
            self.assertIs(type(caught.exception.place), int)

    def test_each_part_that_is_missing(self):
        told = LEXEME.findall(WRITTEN_K)
        for many in range(len(told)):
            text = " ".join(told[:many])
            self.check(text, len(text))
            self.check(text + "\n ", len(text) + 2)
            self.check(text + " -", len(text) + 1)

    def test_no_line(self):
        self.check("sheet { }", 8)
        self.check("sheet { ;", 8)
        self.check("sheet {", 7)

    def test_words(self):
        self.check("sheet { maybe", 8)
        self.check("sheet { yes ; a", 14)
        self.check("sheet { Yes", 8)
        self.check("row { yes ; }", 0)
        self.check("sheet { 0", 8)

    def test_too_few_and_too_many_members(self):
        self.check("sheet { yes 0", 12)
        self.check("sheet { yes yes", 12)
        self.check("sheet { letter ;", 15)
        self.check("sheet { letter a b", 17)
        self.check("sheet { letter 1", 15)
        self.check("sheet { yes ; not ;", 18)
        self.check("sheet { yes ; not a", 18)
        self.check("sheet { yes ; not 0 0", 20)
        for word in ("and", "or", "until", "since"):
            at = 15 + len(word)
            self.check(f"sheet {{ yes ; {word} ;", at)
            self.check(f"sheet {{ yes ; {word} a", at)
            self.check(f"sheet {{ yes ; {word} 0 ;", at + 2)
            self.check(f"sheet {{ yes ; {word} 0 -", at + 2)
            self.check(f"sheet {{ yes ; {word} 0 0 0", at + 4)

    def test_signs_that_begin_no_lexeme(self):
        self.check("sheet { yes ; $ }", 14)
        self.check("sheet { letter abcdefghijklm ; }", 15)
        self.check("sheet { yes } $", 12)
        self.check("sheet {\tyes ; }", 7)
        self.check("sheet { not 0abcdefghijklm", 13)

    def test_what_comes_behind(self):
        self.check("sheet { yes ; } ;", 16)
        self.check("sheet { yes ; }}", 15)
        self.check("sheet { yes ; } abcdefghijklm", 16)

    def test_numbers_of_thousands_of_digits(self):
        long = "9" * 6000
        self.check("sheet { " + long, 8)
        self.check("sheet { yes " + long + " $", 12)
        self.check("sheet { letter " + long, 15)
        self.check("sheet { not 0 " + long + " ; }", 14)
        self.check("sheet { and 0 0 " + long + " ; }", 16)
        self.check("sheet } " + long, 6)
        self.check("sheet { yes ; } " + long, 16)
        self.check("sheet { yes ; not " + long, 18 + len(long))
        self.check("sheet { yes ; and " + long + " ;", 19 + len(long))

    def test_many_spoiled_texts(self):
        wrong = 0
        for seed, sheet in enumerate([K, YES, LOOSE]):
            for text in spoiled(sheet_text(sheet), seed, 700):
                place = first_wrong(text, SHEET)
                if place is None:
                    try:
                        read_sheet(text)
                    except BadSheet:
                        pass
                else:
                    self.check(text, place)
                    wrong += 1
        self.assertGreater(wrong, 1000)


class WrongSheets(unittest.TestCase):
    def check(self, text, path):
        for _ in range(2):
            with self.assertRaises(BadSheet) as caught:
                read_sheet(text)
            self.assertEqual(caught.exception.path, path)

    def test_numbers_of_no_earlier_lines(self):
        self.check("sheet { not 0 ; }", (0, 1))
        self.check("sheet { yes ; not 1 ; }", (1, 1))
        self.check("sheet { yes ; yes ; and 2 5 ; }", (2, 1))
        self.check("sheet { yes ; yes ; until 1 2 ; not 9 ; }", (2, 2))
        self.check("sheet { yes ; since 0 " + "7" * 40 + " ; }", (1, 2))
        self.check("sheet { yes ; since 0 1" + "0" * 40 + " ; }", (1, 2))
        self.check("sheet { yes ; since 0 1" + "0" * 6000 + " ; }", (1, 2))

    def test_the_text_counts_first(self):
        for text, place in (("sheet { not 0 ; ", 15), ("sheet { not 0 ; } $", 18), ("sheet { not 5 ; } }", 18)):
            with self.assertRaises(BadText) as caught:
                read_sheet(text.rstrip() if place == 15 else text)
            self.assertEqual(caught.exception.place, place)


if __name__ == "__main__":
    unittest.main()
