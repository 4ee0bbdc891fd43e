"""[S2.2], [S3.1], [S3.2], [0.2] and the interface: splitsays/truths.py."""

import random
import unittest

from splitsays.rows import check_row, joined_rows, lot_at, one_form
from splitsays.sheets import denied, mirrored_sheet, part, put, tidy
from splitsays.truths import are_alike_on, nearest_apart, truth, truth_row, truths
from tests.plain import A, AB, B, FAR, LETTERS, NONE, R, great_row, rows, told_longer
from tests.plainsheets import K, LETTER_A, LETTER_B, LOOSE, YES, Truths, chained, is_true, sheets

Y = ("yes",)
ALWAYS = (0, (Y,), (), (Y,))
NEVER = (0, (NONE,), (), (NONE,))
NO = YES + (("not", 0),)
# A letter, and what is never true: with it until says what is so at the next moment.
A_AND_NO = LETTER_A + YES + (("not", 1),)
B_AND_NO = LETTER_B + YES + (("not", 1),)
UNTIL = LETTER_A + LETTER_B + (("until", 0, 1),)
SINCE = LETTER_A + LETTER_B + (("since", 0, 1),)


class OneTruth(unittest.TestCase):
    def test_the_sheet_and_the_row_of_the_document(self):
        for moment in list(range(-30, 30)) + [-FAR, FAR]:
            self.assertIs(truth(K, R, moment), moment >= 1)
            self.assertEqual(truths(K, R, moment)[2:], [True, True, moment in (0, 1), moment >= 1])

    def test_each_word(self):
        row = (0, (NONE,), (A, B, AB, NONE), (NONE,))
        base = LETTER_A + LETTER_B
        for line, moments in [(("letter", "a"), (0, 2)), (("not", 0), (1, 3)), (("and", 0, 1), (2,)),
                              (("or", 0, 1), (0, 1, 2)), (("yes",), (0, 1, 2, 3))]:
            self.assertEqual([at for at in range(4) if truth(base + (line,), row, at)], list(moments))

    def test_until(self):
        row = (0, (NONE,), (B, B, A, B, B, NONE, AB, NONE, A), (NONE,))
        # It looks not at the moment itself, and at the next one whatever line j is.
        self.assertEqual([at for at in range(-3, 12) if truth(UNTIL, row, at)], [-1, 0, 1, 5, 7])

    def test_since(self):
        row = (0, (NONE,), (A, NONE, AB, B, B, NONE, B), (NONE,))
        self.assertEqual([at for at in range(-3, 12) if truth(SINCE, row, at)], [1, 3, 4, 5])

    def test_until_that_is_never_met(self):
        # b goes on for ever on the right, but a never comes.
        row = (0, (A,), (A, B), (B,))
        self.assertEqual([at for at in range(-3, 9) if truth(UNTIL, row, at)], [-3, -2, -1])
        self.assertIs(truth(UNTIL, row, FAR), False)
        self.assertEqual(truth_row(UNTIL, (0, (B,), (), (B,))), NEVER)
        self.assertEqual(truth_row(UNTIL, (0, (AB, NONE), (), (B,)))[3], (NONE,))

    def test_until_that_is_met_at_last(self):
        row = (0, (NONE,), (), (B, B, AB, B))
        self.assertEqual(truth_row(UNTIL, row), (-1, (NONE,), (), (Y,)))
        for moment in (-3, -2, -1, 0, 1, 2, 3, FAR):
            self.assertIs(truth(UNTIL, row, moment), moment >= -1)
        row = (0, (NONE,), (), (B, NONE, AB, B))
        self.assertEqual(truth_row(UNTIL, row), (1, (NONE,), (), (Y, NONE, NONE, NONE)))

    def test_since_that_never_began(self):
        row = (0, (B,), (B, A), (A,))
        self.assertEqual([at for at in range(-9, 5) if truth(SINCE, row, at)], [2, 3, 4])
        self.assertIs(truth(SINCE, row, -FAR), False)
        self.assertEqual(truth_row(SINCE, (0, (B,), (), (B,))), NEVER)

    def test_since_that_began(self):
        row = (0, (B, AB, B), (), (NONE,))
        self.assertEqual(truth_row(SINCE, row), (1, (Y,), (), (NONE,)))
        row = (0, (NONE,), (A,), (B,))
        self.assertEqual(truth_row(SINCE, row), (1, (NONE,), (), (Y,)))

    def test_moments_far_away(self):
        # 10 ** 30 leaves 1 on division by 3 and 0 on division by 2.
        row = (0, (A, NONE, B), (), (B, NONE))
        last_b = B_AND_NO + (("since", 0, 2),)
        self.assertEqual([truth(last_b, row, FAR + by) for by in range(4)], [False, True, False, True])
        self.assertEqual([truth(last_b, row, -FAR + by) for by in range(3)],
                         [lot_at(row, -FAR + by - 1) == B for by in range(3)])
        for first in (-FAR, FAR):
            moved = (first,) + R[1:]
            for moment in (-FAR, -1, 0, FAR, first - 1, first, first + 1, first + 2, first + 3):
                self.assertIs(truth(K, moved, moment), moment >= first + 1)


class AllTruths(unittest.TestCase):
    def test_against_the_words(self):
        for sheet, row in zip(sheets(80, 300, lines=9), rows(81, 300)):
            plain = Truths(sheet, row)
            for moment in (-20, -6, -5, -2, -1, 0, 1, 2, 3, 5, 8, 21):
                told = [plain.at(number, moment) for number in range(len(sheet))]
                self.assertEqual(truths(sheet, row, moment), told, (sheet, row, moment))
                self.assertIs(truth(sheet, row, moment), told[-1])
            for found in truths(sheet, row, 0):
                self.assertIs(type(found), bool)

    def test_each_moment_of_some(self):
        for sheet, row in zip(sheets(82, 40, lines=14), rows(83, 40)):
            plain = Truths(sheet, row)
            told = truth_row(sheet, row)
            for moment in range(-60, 60):
                found = plain.at(len(sheet) - 1, moment)
                self.assertEqual(lot_at(told, moment), Y if found else NONE, (sheet, row, moment))

    def test_lines_that_are_not_needed_stand_there_too(self):
        sheet = LETTER_A + LETTER_B + YES + (("since", 0, 2),) + LETTER_A + (("until", 1, 0), ("not", 4))
        self.assertEqual(truths(sheet, R, 1), [True, True, True, True, True, True, False])
        self.assertEqual(truths(LETTER_A + YES, R, 9), [False, True])
        self.assertEqual(len(truths(LOOSE, R, 5)), len(LOOSE))

    def test_what_line_it_is_plays_no_role(self):
        for sheet in sheets(84, 30, lines=12) + [LOOSE, K]:
            for moment in (-3, 0, 1, 4):
                told = truths(sheet, R, moment)
                self.assertEqual(told, [truth(part(sheet, number), R, moment) for number in range(len(sheet))])
                self.assertIs(truth(tidy(sheet), R, moment), told[-1])

    def test_lists_are_new_each_time(self):
        one, other = truths(K, R, 0), truths(K, R, 0)
        self.assertIs(type(one), list)
        one.append(True)
        self.assertEqual(truths(K, R, 0), other)


class TruthRows(unittest.TestCase):
    def test_the_sheet_and_the_row_of_the_document(self):
        self.assertEqual(truth_row(K, R), (1, (NONE,), (), (Y,)))

    def test_by_hand(self):
        self.assertEqual(truth_row(YES, R), ALWAYS)
        self.assertEqual(truth_row(NO, R), NEVER)
        self.assertEqual(truth_row(LETTER_A, R), (0, (NONE,), (Y, Y), (NONE,)))
        self.assertEqual(truth_row(LETTER_B, R), (1, (NONE,), (Y,), (Y, NONE)))
        row = (7, (A, NONE, A, NONE), (A, NONE), (A, NONE))
        self.assertEqual(truth_row(LETTER_A, row), (0, (NONE, Y), (), (NONE, Y)))
        # b at the next moment: the truths of b, one moment earlier.
        self.assertEqual(truth_row(B_AND_NO + (("until", 0, 2),), R), (0, (NONE,), (Y,), (Y, NONE)))
        # More until lines of this kind move it further.
        sheet = B_AND_NO + tuple(("until", 0 if at == 3 else at - 1, 2) for at in range(3, 53))
        self.assertEqual(truth_row(sheet, R), (-49, (NONE,), (Y,), (Y, NONE)))
        self.assertEqual(truth_row(mirrored_sheet(sheet), R), (51, (NONE,), (Y,), (Y, NONE)))

    def test_they_are_in_one_form(self):
        for sheet, row in zip(sheets(85, 150), rows(86, 150)):
            told = truth_row(sheet, row)
            self.assertIsNone(check_row(told))
            self.assertEqual(one_form(told), told)
            for longer in told_longer(row):
                self.assertEqual(truth_row(sheet, longer), told)

    def test_a_letter_named_yes(self):
        sheet = (("letter", "yes"),)
        self.assertEqual(truth_row(sheet, R), NEVER)
        self.assertEqual(truth_row(sheet, truth_row(K, R)), truth_row(K, R))

    def test_a_hundred_lines_and_a_hundred_lots(self):
        for seed in range(4):
            row = great_row(seed, 17, middle=100)
            chance = random.Random(seed)
            sheet = tuple(("letter", letter) for letter in LETTERS)
            while len(sheet) < 100:
                at = len(sheet)
                word = chance.choice(("until", "since", "and", "or"))
                sheet += ((word, chance.randrange(at), chance.randrange(at - 8, at)),)
            plain = Truths(sheet, row)
            for moment in (-FAR, FAR):
                self.assertEqual(len(truths(sheet, row, moment)), 100)
            for moment in (-40, 0, 17, 60, 117, 150):
                self.assertEqual(truths(sheet, row, moment), [plain.at(number, moment) for number in range(100)])

    def test_rows_that_were_returned(self):
        row = joined_rows(great_row(5, -60), great_row(6, 60), 7)
        self.assertGreater(len(row[2]), 100)
        plain = Truths(K, row)
        for moment in range(-70, 100):
            self.assertIs(truth(K, row, moment), plain.at(5, moment))


class Deep(unittest.TestCase):
    def test_chains_of_twenty_thousand_lines(self):
        for words in (("since", "until"), ("since",), ("until",)):
            sheet = chained(19990, words)
            for row in (R, great_row(7, 0)):
                near = chained(60, words)
                self.assertEqual(truths(sheet, row, 3)[:len(near)], truths(near, row, 3))
                self.assertIs(truth(denied(sheet), row, FAR), not truth(sheet, row, FAR))

    def test_moments_are_counted(self):
        # a held so many moments ago: the truths stay short, but move.
        steps = 15000
        sheet = A_AND_NO + tuple(("since", 0 if at == 3 else at - 1, 2) for at in range(3, 3 + steps))
        self.assertEqual(truth_row(sheet, R), (steps, (NONE,), (Y, Y), (NONE,)))
        self.assertIs(truth(sheet, R, steps), True)
        self.assertIs(truth(sheet, R, steps - 1), False)
        self.assertIs(truth(mirrored_sheet(sheet), R, 1 - steps), True)
        self.assertIs(truth(mirrored_sheet(sheet), R, -1 - steps), False)

    def test_long_stretches(self):
        # a held at one of so many moments ago: the stretch grows line by line.
        sheet = A_AND_NO
        for _ in range(600):
            sheet += (("since", len(sheet) - 1 if len(sheet) > 3 else 0, 2), ("or", 0, len(sheet)))
        self.assertEqual(truth_row(sheet, R), (0, (NONE,), (Y,) * 602, (NONE,)))

    def test_sheets_put_together_again_and_again(self):
        sheet, row = K, great_row(8, 0)
        for turn in range(2200):
            word = ("since", "until", "and", "or")[turn % 4]
            other = denied(K) if turn % 3 else UNTIL
            sheet = put(word, sheet, other) if turn % 5 else put(word, other, sheet)
        told = truth_row(sheet, row)
        for moment in (-3, 0, 5):
            self.assertIs(truth(sheet, row, moment), lot_at(told, moment) == Y)
            self.assertIs(truths(sheet, row, moment)[-1], lot_at(told, moment) == Y)


class Compared(unittest.TestCase):
    def test_by_hand(self):
        self.assertIs(are_alike_on(K, K, R), True)
        self.assertIs(are_alike_on(LETTER_A, LETTER_B, R), False)
        self.assertEqual(nearest_apart(LETTER_A, LETTER_B, R), 0)
        self.assertIsNone(nearest_apart(LETTER_A, LETTER_B, (3, (AB, NONE), (NONE, AB), (NONE,))))
        self.assertIs(are_alike_on(LETTER_A, LETTER_B, (3, (AB, NONE), (NONE, AB), (NONE,))), True)
        # K is true from 1 on, and since(a, yes) as well: b always comes later in R.
        once = LETTER_A + YES + (("since", 0, 1),)
        self.assertIs(are_alike_on(K, once, R), True)
        self.assertIsNone(nearest_apart(K, once, R))

    def test_the_later_one_if_two_are_as_near(self):
        row = (0, (NONE,), (A, NONE, NONE, NONE, NONE, NONE, A), (NONE,))
        for by, nearest in ((-3, 3), (-4, 2), (-2, -2), (0, 0), (-6, 0), (5, 5), (-9, -3), (FAR, FAR), (-FAR, 6 - FAR)):
            self.assertEqual(nearest_apart(LETTER_A, NO, (by,) + row[1:]), nearest)

    def test_against_the_words(self):
        chance = random.Random(87)
        for row in rows(88, 200):
            one, other = chance.choices(sheets(89, 60, lines=6), k=2)
            ones, others = Truths(one, row), Truths(other, row)
            apart = [at for at in range(-60, 61) if ones.at(len(one) - 1, at) != others.at(len(other) - 1, at)]
            expected = min(apart, key=lambda at: (abs(at), -at)) if apart else None
            self.assertEqual(nearest_apart(one, other, row), expected)
            self.assertIs(are_alike_on(one, other, row), expected is None)

    def test_far_away(self):
        for first in (-FAR, FAR):
            row = (first, (NONE,), (A,), (NONE,))
            self.assertEqual(nearest_apart(LETTER_A, LETTER_B, row), first)
            self.assertIs(are_alike_on(LETTER_A, LETTER_B, row), False)
            once = LETTER_A + YES + (("since", 0, 1),)
            self.assertEqual(nearest_apart(once, NO, row), max(0, first + 1))
            self.assertEqual(nearest_apart(mirrored_sheet(once), NO, row), min(0, first - 1))

    def test_deep(self):
        sheet = chained(19990)
        self.assertIs(are_alike_on(sheet, tidy(sheet), R), True)
        self.assertIsNone(nearest_apart(sheet, sheet, R))
        self.assertEqual(nearest_apart(sheet, denied(sheet), R), 0)


if __name__ == "__main__":
    unittest.main()
