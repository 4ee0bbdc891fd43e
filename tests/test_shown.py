"""[S3.3] and the interface: splitsays/shown.py."""

import unittest

from splitsays.rows import mirrored_row
from splitsays.sheets import mirrored_sheet, put
from splitsays.shown import shown
from splitsays.truths import truth
from tests.plain import A, AB, B, FAR, NONE, R, great_row, rows
from tests.plainsheets import K, LETTER_A, LETTER_B, LOOSE, YES, Truths, chained, sheets

UNTIL = LETTER_A + LETTER_B + (("until", 0, 1),)
SINCE = LETTER_A + LETTER_B + (("since", 0, 1),)
FUTURE = LETTER_A + YES + (("until", 0, 1),)
PAST = LETTER_A + YES + (("since", 0, 1),)


def plainly_shown(sheet, row, moment):
    """What S3.3 says, by looking at one moment after the other, as far as anything new can come."""
    word, one, other = sheet[-1]
    truths = Truths(sheet, row)
    if word == "until":
        moments = range(moment + 1, max(moment, truths.high) + len(row[3]) + 1)
    else:
        moments = range(moment - 1, min(moment, truths.low) - len(row[1]) - 1, -1)
    if truths.at(len(sheet) - 1, moment):
        return ("shown", next(at for at in moments if truths.at(one, at)))
    for at in moments:
        if not truths.at(one, at) and not truths.at(other, at):
            return ("barred", at)
    assert not any(truths.at(one, at) for at in moments)
    return ("no",)


class Shown(unittest.TestCase):
    def test_the_examples(self):
        self.assertEqual(shown(UNTIL, R, 0), ("shown", 1))
        self.assertEqual(shown(UNTIL, R, 1), ("barred", 3))
        for moment in (1, 2, 7, FAR):
            self.assertEqual(shown(FUTURE, R, moment), ("no",))
        self.assertEqual(shown(FUTURE, R, 0), ("shown", 1))
        self.assertEqual(shown(FUTURE, R, -1), ("shown", 0))
        self.assertEqual(shown(FUTURE, R, -FAR), ("shown", 0))

    def test_since_by_earlier_moments(self):
        self.assertEqual([shown(SINCE, R, at) for at in range(-1, 6)], [
            ("barred", -2), ("barred", -1), ("shown", 0), ("shown", 1), ("shown", 1), ("barred", 3), ("barred", 3)])
        self.assertEqual(shown(SINCE, R, FAR), ("barred", FAR - 1))
        self.assertEqual(shown(SINCE, R, FAR + 1), ("barred", FAR - 1))
        self.assertEqual(shown(PAST, R, FAR), ("shown", 1))
        self.assertEqual(shown(PAST, R, 1), ("shown", 0))
        self.assertEqual(shown(PAST, R, 0), ("no",))
        self.assertEqual(shown(PAST, R, -FAR), ("no",))

    def test_neither_met_nor_barred(self):
        row = (0, (B,), (NONE,), (B, B))
        self.assertEqual(shown(UNTIL, row, 0), ("no",))
        self.assertEqual(shown(UNTIL, row, FAR), ("no",))
        self.assertEqual(shown(UNTIL, row, -1), ("barred", 0))
        self.assertEqual(shown(UNTIL, row, -FAR), ("barred", 0))
        self.assertEqual(shown(SINCE, row, 0), ("no",))
        self.assertEqual(shown(SINCE, row, -FAR), ("no",))
        self.assertEqual(shown(SINCE, row, FAR), ("barred", 0))

    def test_one_moment_may_not_show_and_bar(self):
        # Where a is, it plays no role that b is not.
        row = (0, (NONE,), (NONE, A, NONE, AB), (NONE,))
        self.assertEqual([shown(UNTIL, row, at) for at in range(5)], [
            ("shown", 1), ("barred", 2), ("shown", 3), ("barred", 4), ("barred", 5)])

    def test_far_away_on_both_sides(self):
        # 10 ** 30 leaves 1 on division by 3.
        row = (0, (A, B, B), (), (B, A, B))
        self.assertEqual(shown(UNTIL, row, FAR), ("shown", FAR + 3))
        self.assertEqual(shown(UNTIL, row, FAR - 1), ("shown", FAR))
        self.assertEqual(shown(UNTIL, row, -FAR), ("shown", -FAR + 1))
        self.assertEqual(shown(SINCE, row, FAR), ("shown", FAR - 3))
        self.assertEqual(shown(SINCE, row, -FAR), ("shown", -FAR - 2))
        for first in (-FAR, FAR):
            moved = (first,) + R[1:]
            self.assertEqual(shown(UNTIL, moved, first), ("shown", first + 1))
            self.assertEqual(shown(UNTIL, moved, first + 1), ("barred", first + 3))
            self.assertEqual(shown(FUTURE, moved, first - 7), ("shown", first))
        self.assertEqual(shown(FUTURE, (FAR,) + R[1:], -FAR), ("shown", FAR))
        self.assertEqual(shown(PAST, (-FAR,) + R[1:], FAR), ("shown", 1 - FAR))

    def test_against_the_words(self):
        looked = 0
        for sheet, row in zip(sheets(90, 900, lines=10), rows(91, 900)):
            if sheet[-1][0] in ("until", "since"):
                looked += 1
                for moment in (-15, -7, -4, -1, 0, 1, 2, 5, 9, 14):
                    found = shown(sheet, row, moment)
                    self.assertEqual(found, plainly_shown(sheet, row, moment), (sheet, row, moment))
                    self.assertIs(found[0] == "shown", truth(sheet, row, moment))
                    self.assertIs(type(found), tuple)
        self.assertGreater(looked, 300)

    def test_members_that_are_untils_and_sinces(self):
        for row in rows(92, 40):
            for sheet in (K, put("until", K, LETTER_B), put("since", UNTIL, SINCE), put("until", UNTIL, SINCE), LOOSE):
                for moment in (-9, 0, 3, 11):
                    self.assertEqual(shown(sheet, row, moment), plainly_shown(sheet, row, moment))

    def test_mirrored(self):
        for sheet, row in zip([K, UNTIL, SINCE, PAST] * 10, rows(93, 40)):
            for moment in range(-6, 7):
                told = shown(sheet, row, moment)
                other = shown(mirrored_sheet(sheet), mirrored_row(row), -moment)
                self.assertEqual(other, (told[0], -told[1]) if len(told) == 2 else told)

    def test_great_rows_and_deep_sheets(self):
        row = great_row(94, -30)
        for sheet in (UNTIL, SINCE, PAST, FUTURE, K):
            for moment in range(-60, 40):
                self.assertEqual(shown(sheet, row, moment), plainly_shown(sheet, row, moment))
        deep = chained(19990)
        self.assertEqual(shown(deep + (("since", 0, 2),), R, 50), ("shown", 1))
        self.assertEqual(shown(put("until", deep, YES), R, 0)[0] == "shown", truth(put("until", deep, YES), R, 0))


if __name__ == "__main__":
    unittest.main()
