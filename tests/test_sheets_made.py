"""[S2.1], [S2.3], [S2.4], [0.2] and the interface: what is made of sheets."""

import random
import unittest

from splitsays.rows import mirrored_row
from splitsays.sheets import check_sheet, denied, letters_in, mirrored_sheet, needed, part, put, tidy
from tests.plain import R, rows
from tests.plainsheets import K, LETTER_A, LETTER_B, LOOSE, YES, Truths, chained, is_true, needs, sheets, tree

SOME = [K, YES, LOOSE, LETTER_A] + sheets(61, 60, lines=14)


class Plain(unittest.TestCase):
    def is_sheet(self, value):
        self.assertIsNone(check_sheet(value))
        self.assertEqual({type(line) for line in value}, {tuple})
        self.assertIs(type(value), tuple)


class Needed(Plain):
    def test_by_hand(self):
        self.assertEqual(needed(K), [0, 1, 2, 3, 4, 5])
        self.assertEqual(needed(LOOSE), [0, 3, 4, 8, 11])
        self.assertEqual(needed(K[:3] + (("not", 0),)), [0, 3])
        self.assertEqual(needed(YES * 5), [4])

    def test_against_the_words(self):
        for sheet in SOME:
            self.assertEqual(needed(sheet), sorted(needs(sheet, len(sheet) - 1)))

    def test_letters(self):
        self.assertEqual(letters_in(K), ["a", "b"])
        self.assertEqual(letters_in(LOOSE), ["b", "c"])
        self.assertEqual(letters_in(YES), [])
        self.assertEqual(letters_in(LETTER_A + YES), [])
        sheet = tuple(("letter", word) for word in ("z", "a2", "a10", "z", "until"))
        sheet += (("and", 0, 1), ("or", 5, 2), ("since", 3, 6), ("until", 4, 7))
        self.assertEqual(letters_in(sheet), ["a10", "a2", "until", "z"])
        for sheet in SOME:
            found = {sheet[number][1] for number in needs(sheet, len(sheet) - 1) if sheet[number][0] == "letter"}
            self.assertEqual(letters_in(sheet), sorted(found))

    def test_lists_are_new_each_time(self):
        for told in (needed, letters_in):
            one, other = told(K), told(K)
            self.assertIs(type(one), list)
            one.append(7)
            self.assertEqual(told(K), other)


class Part(Plain):
    def test_by_hand(self):
        self.assertEqual(part(K, 5), K)
        self.assertEqual(part(K, 4), K[:5])
        self.assertEqual(part(K, 3), (("letter", "b"), ("yes",), ("until", 0, 1)))
        self.assertEqual(part(K, 1), LETTER_B)
        # Lines that are told twice stay so: nothing is told once but by tidy.
        self.assertEqual(part(LOOSE, 9), (
            ("letter", "b"), ("letter", "a"), ("not", 1), ("not", 1), ("since", 3, 0), ("or", 4, 2)))

    def test_each_line(self):
        for sheet in SOME:
            for number in range(len(sheet)):
                made = part(sheet, number)
                self.is_sheet(made)
                self.assertEqual(tree(made), tree(sheet, number))
                kept = sorted(needs(sheet, number))
                self.assertEqual(needed(made), list(range(len(made))))
                self.assertEqual([tree(made, at) for at in range(len(made))], [tree(sheet, at) for at in kept])


class Tidy(Plain):
    def test_by_hand(self):
        self.assertEqual(tidy(K), K)
        self.assertEqual(tidy(YES * 4), YES)
        self.assertEqual(tidy(LETTER_A + YES + LETTER_A), LETTER_A)
        self.assertEqual(tidy(LOOSE), (
            ("letter", "c"), ("letter", "b"), ("until", 1, 0), ("until", 0, 0), ("since", 3, 2)))
        # The two lines not become equal once their letters are told once.
        self.assertEqual(tidy(LETTER_A * 2 + (("not", 0), ("not", 1), ("or", 2, 3))),
                         LETTER_A + (("not", 0), ("or", 1, 1)))

    def test_the_sequence_stays(self):
        one = LETTER_A + LETTER_B + (("and", 0, 1),)
        other = LETTER_B + LETTER_A + (("and", 1, 0),)
        self.assertEqual(tidy(one), one)
        self.assertEqual(tidy(other), other)
        self.assertEqual(tree(one), tree(other))

    def test_against_the_words(self):
        for sheet in SOME:
            made = tidy(sheet)
            self.is_sheet(made)
            trees = []
            for number in sorted(needs(sheet, len(sheet) - 1)):
                if tree(sheet, number) not in trees:
                    trees.append(tree(sheet, number))
            self.assertEqual([tree(made, number) for number in range(len(made))], trees)
            self.assertEqual(tidy(made), made)
            self.assertEqual(needed(made), list(range(len(made))))


class Put(Plain):
    def test_by_hand(self):
        self.assertEqual(put("until", LETTER_A, LETTER_B), LETTER_A + LETTER_B + (("until", 0, 1),))
        self.assertEqual(put("and", K, YES), K + YES + (("and", 5, 6),))
        self.assertEqual(put("or", YES, K), YES + (
            ("letter", "a"), ("letter", "b"), ("yes",), ("until", 2, 3), ("and", 1, 4), ("since", 5, 3), ("or", 0, 6)))
        self.assertEqual(put("since", LETTER_A, LETTER_A), LETTER_A * 2 + (("since", 0, 1),))

    def test_lines_that_are_not_needed_stay(self):
        made = put("or", YES + LETTER_A, YES + LETTER_B + LETTER_A)
        self.assertEqual(made, YES + LETTER_A + YES + LETTER_B + LETTER_A + (("or", 1, 4),))

    def test_each_word(self):
        chance = random.Random(62)
        for word in ("and", "or", "until", "since"):
            for _ in range(30):
                one, other = chance.choice(SOME), chance.choice(SOME)
                made = put(word, one, other)
                self.is_sheet(made)
                self.assertEqual(made[:len(one)], one)
                self.assertEqual(len(made), len(one) + len(other) + 1)
                self.assertEqual(tree(made), (word, tree(one), tree(other)))
                for number in range(len(other)):
                    self.assertEqual(tree(made, len(one) + number), tree(other, number))

    def test_denied(self):
        self.assertEqual(denied(YES), YES + (("not", 0),))
        self.assertEqual(denied(K), K + (("not", 5),))
        self.assertEqual(denied(denied(YES + LETTER_A)), YES + LETTER_A + (("not", 1), ("not", 2)))
        for sheet in SOME:
            self.is_sheet(denied(sheet))


class Mirrored(Plain):
    def test_by_hand(self):
        self.assertEqual(mirrored_sheet(K), (
            ("letter", "a"), ("letter", "b"), ("yes",), ("since", 1, 2), ("and", 0, 3), ("until", 4, 2)))
        self.assertEqual(mirrored_sheet(YES + LETTER_A), YES + LETTER_A)

    def test_letters_named_so_stay(self):
        sheet = (("letter", "until"), ("letter", "since"), ("until", 0, 1))
        self.assertEqual(mirrored_sheet(sheet), sheet[:2] + (("since", 0, 1),))

    def test_lines_that_are_not_needed_are_mirrored_too(self):
        self.assertEqual(mirrored_sheet(YES + (("until", 0, 0),) + YES), YES + (("since", 0, 0),) + YES)

    def test_twice_is_the_sheet_itself(self):
        for sheet in SOME:
            self.is_sheet(mirrored_sheet(sheet))
            self.assertEqual(mirrored_sheet(mirrored_sheet(sheet)), sheet)

    def test_its_truth_is_that_of_the_sheet_on_the_other_side(self):
        for sheet, row in zip(SOME, [R] * 3 + rows(63, 40)):
            truths = Truths(mirrored_sheet(sheet), mirrored_row(row))
            for moment in range(-9, 10):
                self.assertEqual(truths.at(len(sheet) - 1, -moment), is_true(sheet, row, moment))


class Deep(Plain):
    def test_sheets_put_together_again_and_again(self):
        sheet = K
        for turn in range(2200):
            word = ("since", "until", "and", "or")[turn % 4]
            sheet = put(word, sheet, K) if turn % 3 else put(word, K, sheet)
            if turn % 5 == 0:
                sheet = denied(sheet)
        self.assertGreater(len(sheet), 15000)
        self.is_sheet(sheet)
        self.assertEqual(needed(sheet), list(range(len(sheet))))
        self.assertEqual(part(sheet, len(sheet) - 1), sheet)
        self.assertEqual(letters_in(sheet), ["a", "b"])
        made = tidy(sheet)
        self.is_sheet(made)
        self.assertEqual(made[:6], K)
        self.assertEqual(len(made), 6 + 2200 + 440)
        self.assertEqual(mirrored_sheet(mirrored_sheet(sheet)), sheet)

    def test_sheets_put_together_with_themselves(self):
        sheet = LETTER_A
        for _ in range(13):
            sheet = put("and", sheet, sheet)
        self.assertEqual(len(sheet), 2 ** 14 - 1)
        self.assertEqual(tidy(sheet), LETTER_A + tuple(("and", at, at) for at in range(13)))

    def test_a_line_told_from_the_one_ahead_twice(self):
        sheet = LETTER_A + tuple((("until", "or")[at % 2], at, at) for at in range(59))
        self.assertEqual(needed(sheet), list(range(60)))
        self.assertEqual(tidy(sheet), sheet)
        self.assertEqual(part(sheet, 40), sheet[:41])
        self.assertEqual(tidy(put("since", sheet, sheet)), sheet + (("since", 59, 59),))

    def test_chains_of_twenty_thousand_lines(self):
        sheet = chained(19990)
        self.assertEqual(needed(sheet), list(range(len(sheet))))
        self.assertEqual(tidy(sheet), sheet)
        self.assertEqual(len(denied(sheet)), len(sheet) + 1)
        self.assertEqual(part(sheet, 10000), sheet[:10001])


if __name__ == "__main__":
    unittest.main()
