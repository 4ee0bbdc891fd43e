"""[S8.3], [0.2] and the interface: splitsays/leftover.py."""

import random
import unittest

from splitsays.canbe import alike, is_always
from splitsays.kinds import is_future, is_split
from splitsays.leftover import left_over
from splitsays.rows import shifted, with_lot
from splitsays.sheets import check_sheet, denied, letters_in, mirrored_sheet, needed, put
from splitsays.splitting import left_of, split
from splitsays.truths import truth, truth_row
from tests.plain import A, AB, B, C, FAR, NONE, R, a_lot, lot_of, rows
from tests.plainsheets import LETTER_A, LETTER_B, YES, is_true, tree
from tests.test_splitting import THREE, WITHIN

# until(b, a), as in the document.
UNTIL = LETTER_A + LETTER_B + (("until", 1, 0),)
NESTED = LETTER_A + LETTER_B + (("until", 0, 1), ("not", 2), ("until", 3, 0), ("until", 1, 4))


def a_future(chance, many, letters=("a", "b")):
    """A sheet of the future of so many until lines."""
    lines = [("letter", letter) for letter in letters] + [("yes",)]
    own = []
    for _ in range(many):
        numbers = [chance.randrange(len(lines)) for _ in range(2)]
        lines.append((chance.choice(("and", "or")), *numbers))
        if chance.random() < 0.5:
            lines.append(("not", len(lines) - 1))
        lines.append(("until", len(lines) - 1, chance.randrange(len(lines))))
        own.append(len(lines) - 1)
    last = own[0]
    for number in own[1:]:
        lines.append((chance.choice(("and", "or")), last, number))
        last = len(lines) - 1
    return tuple(lines[:last + 1])


def futures(seed, count, many, **limits):
    chance = random.Random(seed)
    found = []
    while len(found) < count:
        sheet = a_future(chance, chance.randint(1, many), **limits)
        if is_future(sheet):
            found.append(sheet)
    return found


class LeftOver(unittest.TestCase):
    def check(self, sheet, lots, seed=0, many=4):
        """It is true at a moment exactly if the given one was true ahead of the lots, in rows that have them."""
        made = left_over(sheet, lots)
        self.assertIsNone(check_sheet(made))
        self.assertIs(is_future(made), True)
        self.assertLessEqual(set(letters_in(made)), set(letters_in(sheet)))
        for row in rows(seed, many, letters=("a", "b", "c")):
            for moment in (-3, 0, 2):
                for at, lot in enumerate(lots):
                    row = with_lot(row, moment + 1 + at, lot)
                self.assertIs(truth(made, row, moment + len(lots)), truth(sheet, row, moment), (sheet, lots, row))
                far = shifted(row, FAR)
                self.assertIs(truth(made, far, FAR + moment + len(lots)), truth(sheet, far, FAR + moment))
        self.assertEqual(left_over(sheet, lots), made)
        return made

    def test_the_examples(self):
        self.assertEqual(tree(self.check(UNTIL, (A,))), tree(UNTIL))
        self.assertIsNone(alike(left_over(UNTIL, (A,)), UNTIL))
        self.assertIs(is_always(self.check(UNTIL, (B,))), True)
        self.assertIs(is_always(denied(self.check(UNTIL, (NONE,)))), True)
        self.assertIs(is_always(self.check(UNTIL, (AB,))), True)

    def test_no_lots(self):
        for sheet in [UNTIL, NESTED, YES, denied(YES), UNTIL + (("not", 2), ("or", 2, 3))] + futures(230, 10, 4):
            self.assertIsNone(alike(self.check(sheet, ()), sheet))

    def test_letters_within_until_lines_are_not_known(self):
        sheet = LETTER_A + LETTER_B + (("until", 0, 1), ("until", 2, 0))
        # The inner until line may be met at the moment that has the lot, or later.
        made = self.check(sheet, (B,))
        self.assertIsNone(alike(made, sheet[:3]))
        made = self.check(sheet, (A,))
        self.assertIsNone(alike(made, put("or", sheet[:3], sheet)))
        self.assertIsNone(alike(left_over(sheet, (NONE,)), sheet[:3]))

    def test_sheets_that_rest_on_nothing(self):
        for lots in ((), (A,), (B, NONE, C)):
            self.assertIs(is_always(self.check(YES, lots)), True)
            self.assertIs(is_always(denied(self.check(denied(YES), lots))), True)

    def test_other_letters_in_lots_play_no_role(self):
        self.assertEqual(left_over(UNTIL, (("a", "x", "z"),)), left_over(UNTIL, (A,)))

    def test_all_at_once_and_one_after_another(self):
        chance = random.Random(231)
        for seed, sheet in enumerate([NESTED] + futures(232, 60, 5)):
            lots = tuple(a_lot(chance, ("a", "b", "c")) for _ in range(chance.randint(1, 12)))
            made = self.check(sheet, lots, seed)
            at = chance.randint(0, len(lots))
            parts = left_over(left_over(sheet, lots[:at]), lots[at:])
            one = sheet
            for lot in lots:
                one = left_over(one, (lot,))
            for row in rows(seed, 4):
                self.assertEqual(truth_row(parts, row), truth_row(made, row))
                self.assertEqual(truth_row(one, row), truth_row(made, row))
            if sum(line[0] == "until" for line in put("or", made, parts)) <= 6:
                self.assertIsNone(alike(made, parts))

    def test_by_the_words(self):
        for sheet in futures(233, 15, 3):
            for row in rows(234, 3, left=2, middle=3, right=2):
                for moment in (-2, 0, 1):
                    lot = tuple(letter for letter in ("a", "b") if letter in lot_of(row, moment + 1))
                    self.assertIs(truth(left_over(sheet, (lot,)), row, moment + 1), is_true(sheet, row, moment))

    def test_eight_until_lines(self):
        chance = random.Random(235)
        for seed, sheet in enumerate(futures(236, 200, 8, letters=("a", "b", "c"))):
            if sum(sheet[number][0] == "until" for number in needed(sheet)) == 8:
                self.check(sheet, tuple(a_lot(chance, ("a", "b", "c")) for _ in range(12)), seed)

    def test_it_does_not_grow_on_and_on(self):
        chance = random.Random(237)
        for sheet in [NESTED] + futures(238, 12, 6):
            longest = 0
            for _ in range(60):
                sheet = left_over(sheet, (a_lot(chance, ("a", "b")),))
                longest = max(longest, len(sheet))
            self.assertLess(longest, 400)

    def test_what_left_of_returned(self):
        chance = random.Random(239)
        for sheet in (WITHIN, mirrored_sheet(WITHIN), mirrored_sheet(THREE), THREE):
            made = split(sheet)
            self.assertIs(is_split(made), True)
            for row in rows(240, 3, letters=("a", "b", "c")):
                left = left_of(made, row, 0)
                lots = tuple(lot_of(row, moment) for moment in range(1, 9))
                over = self.check(left, lots)
                # So it is what is left of the sheet at the later moment.
                self.assertIs(truth(over, row, 8), truth(sheet, row, 0))
                self.check(over, tuple(a_lot(chance, ("a", "b", "c")) for _ in range(4)))

    def test_the_same_as_what_is_left_of_it(self):
        until = put("and", UNTIL, denied(NESTED))
        for moment in range(-3, 6):
            made = left_over(until, (lot_of(R, moment + 1),))
            self.assertIs(truth(made, R, moment + 1), truth(until, R, moment))


if __name__ == "__main__":
    unittest.main()
