"""[S4.1], [S4.2] and the interface: splitsays/canbe.py."""

import itertools
import random
import unittest

from splitsays.canbe import alike, can_be, is_always
from splitsays.rows import check_row
from splitsays.sheets import denied, letters_in, mirrored_sheet, put, tidy
from splitsays.truths import truth, truth_row
from tests.plain import A, NONE
from tests.plainsheets import K, LETTER_A, LETTER_B, LOOSE, YES, a_sheet, is_true, sheets

NEVER = (0, (NONE,), (), (NONE,))
NO = denied(YES)
LETTER_C = (("letter", "c"),)
UNTIL = put("until", LETTER_B, LETTER_A)
SINCE = put("since", LETTER_B, LETTER_A)


def later(sheet):
    return put("until", sheet, YES)


def earlier(sheet):
    return put("since", sheet, YES)


def next_one(sheet):
    return put("until", sheet, NO)


def one_ago(sheet):
    return put("since", sheet, NO)


def all_of(*told):
    sheet = told[0]
    for other in told[1:]:
        sheet = put("and", sheet, other)
    return sheet


def either(one, other):
    return put("or", one, other)


def always_later(sheet):
    return denied(later(denied(sheet)))


def always_earlier(sheet):
    return denied(earlier(denied(sheet)))


def everywhere(sheet):
    return all_of(sheet, always_later(sheet), always_earlier(sheet))


def fits(sheet):
    """Whether a sheet keeps the limits of this stage."""
    words = [line[0] for line in tidy(sheet)]
    return words.count("until") + words.count("since") <= 6 and words.count("letter") <= 3


def small_rows():
    parts = [list(itertools.product((NONE, A), repeat=many)) for many in range(4)]
    return [(0, left, middle, right) for left in parts[1] + parts[2] for middle in sum(parts, [])
            for right in parts[1] + parts[2]]


class CanBe(unittest.TestCase):
    def can(self, sheet):
        found = can_be(sheet)
        self.assertIsNotNone(found, sheet)
        self.assertIs(type(found), tuple)
        row, moment = found
        self.assertIsNone(check_row(row))
        self.assertIs(type(moment), int)
        self.assertIs(truth(sheet, row, moment), True, (sheet, found))
        self.assertIs(is_true(sheet, row, moment), True)
        self.assertEqual(can_be(sheet), found)
        return found

    def cannot(self, sheet):
        for _ in range(2):
            self.assertIsNone(can_be(sheet), sheet)

    def test_sheets_that_can_be(self):
        for sheet in (LETTER_A, denied(LETTER_A), YES, K, LOOSE, UNTIL, SINCE, denied(UNTIL), denied(SINCE), denied(K),
                      all_of(UNTIL, denied(LETTER_A), denied(LETTER_B)), everywhere(LETTER_A),
                      everywhere(either(LETTER_A, LETTER_B)), all_of(UNTIL, SINCE, next_one(denied(LETTER_B)))):
            self.can(sheet)

    def test_sheets_that_cannot_be(self):
        for sheet in (NO, all_of(LETTER_A, denied(LETTER_A)), all_of(K, denied(K)), later(NO), earlier(NO),
                      all_of(next_one(LETTER_A), next_one(denied(LETTER_A))), denied(later(YES)), denied(earlier(YES)),
                      all_of(UNTIL, next_one(denied(either(LETTER_A, LETTER_B)))),
                      all_of(LETTER_A, next_one(always_earlier(denied(LETTER_A))))):
            self.cannot(sheet)

    def test_an_until_that_is_put_off_for_ever(self):
        self.cannot(all_of(UNTIL, denied(later(LETTER_B))))
        self.cannot(all_of(UNTIL, always_later(all_of(LETTER_A, denied(LETTER_B)))))
        # What is so now, and each time at the next moment, too, never ends.
        step = either(denied(LETTER_A), next_one(LETTER_A))
        self.cannot(all_of(LETTER_A, step, always_later(step), later(denied(LETTER_A))))
        self.can(all_of(LETTER_A, step, always_later(step)))
        self.can(all_of(later(LETTER_B), denied(UNTIL)))
        # Two that are met by turns: for ever a comes again, and for ever not a.
        self.can(everywhere(all_of(later(LETTER_A), later(denied(LETTER_A)))))
        self.can(always_later(all_of(later(LETTER_A), later(LETTER_B), denied(put("and", LETTER_A, LETTER_B)))))

    def test_a_since_that_never_began(self):
        self.cannot(all_of(SINCE, denied(earlier(LETTER_B))))
        self.cannot(all_of(SINCE, always_earlier(all_of(LETTER_A, denied(LETTER_B)))))
        step = either(denied(LETTER_A), one_ago(LETTER_A))
        self.cannot(all_of(LETTER_A, step, always_earlier(step), earlier(denied(LETTER_A))))
        self.can(all_of(LETTER_A, step, always_earlier(step)))
        self.can(always_earlier(all_of(earlier(LETTER_A), earlier(LETTER_B), denied(put("and", LETTER_A, LETTER_B)))))

    def test_both_sides_at_once(self):
        # a at no earlier moment, from now on always, and b only where a is not.
        sheet = all_of(LETTER_A, always_later(LETTER_A), always_earlier(denied(LETTER_A)), earlier(LETTER_B))
        row, moment = self.can(sheet)
        for at in range(-20, 20):
            self.assertIs(truth(LETTER_A, row, moment + at), at >= 0)
        self.cannot(all_of(sheet, later(all_of(LETTER_A, one_ago(denied(LETTER_A))))))

    def test_three_letters_and_six_lines(self):
        for order in itertools.permutations((LETTER_A, LETTER_B, LETTER_C)):
            one, two, three = order
            sheet = all_of(later(one), earlier(two), put("until", two, three), put("since", three, one),
                           put("until", one, denied(two)), put("since", all_of(one, two), denied(three)))
            self.assertTrue(fits(sheet))
            self.can(sheet)
            self.can(denied(sheet))
            self.cannot(all_of(sheet, denied(put("until", two, three))))

    def test_letters_are_those_of_the_sheet(self):
        row, _ = self.can(LETTER_C + LETTER_A)
        self.assertEqual({letter for part in row[1:] for lot in part for letter in lot}, {"a"})

    def test_lines_that_are_not_needed_play_no_role(self):
        sheet = tuple(("letter", letter) for letter in "abcdefgh") + (("until", 0, 1),) * 12 + (("since", 2, 3),) * 12
        self.can(sheet + YES)
        self.cannot(sheet + YES + (("not", len(sheet)),))
        self.can(sheet)

    def test_a_line_told_from_the_one_ahead_twice(self):
        for words in (("and", "or"), ("and", "and"), ("or", "or")):
            sheet = UNTIL + tuple((words[at % 2], at, at) for at in range(2, 59))
            self.assertEqual(len(sheet), 60)
            self.can(sheet)
            self.can(denied(sheet))
            self.cannot(put("and", sheet, denied(UNTIL)))
            self.assertIsNone(alike(sheet, UNTIL))
        # Five untils of the one ahead twice, as often as the limits let.
        sheet = LETTER_A + tuple(("until", at, at) for at in range(6))
        sheet += tuple(("and", at, at) for at in range(6, 59))
        self.can(sheet)
        self.cannot(put("and", sheet, denied(later(LETTER_A))))

    def test_none_is_right_on_small_rows(self):
        looked = 0
        for sheet in sheets(100, 1500, lines=12, letters=("a",)):
            if fits(sheet) and can_be(sheet) is None:
                looked += 1
                for row in small_rows():
                    self.assertEqual(truth_row(sheet, row), NEVER, sheet)
        self.assertGreater(looked, 20)

    def test_what_is_told_is_right(self):
        looked = 0
        chance = random.Random(101)
        for _ in range(500):
            sheet = a_sheet(chance, chance.randint(4, 16), letters=("a", "b", "c"))
            if fits(sheet):
                looked += 1
                if can_be(sheet) is not None:
                    self.can(sheet)
                self.assertTrue(can_be(sheet) or can_be(denied(sheet)))
        self.assertGreater(looked, 300)


class Always(unittest.TestCase):
    def test_what_is_always_true(self):
        for sheet in (YES, either(LETTER_A, denied(LETTER_A)), later(YES), earlier(YES), denied(all_of(K, denied(K))),
                      either(denied(UNTIL), later(LETTER_B)), either(denied(SINCE), earlier(LETTER_B)),
                      either(denied(LETTER_A), next_one(one_ago(LETTER_A)))):
            self.assertIs(is_always(sheet), True)
            self.assertIs(is_always(mirrored_sheet(sheet)), True)
            self.assertIs(is_always(denied(sheet)), False)

    def test_what_is_not(self):
        for sheet in (NO, LETTER_A, K, UNTIL, SINCE, later(LETTER_A), either(LETTER_A, later(LETTER_A)),
                      either(denied(later(LETTER_A)), UNTIL), LOOSE):
            self.assertIs(is_always(sheet), False)

    def test_what_just_one_row_breaks(self):
        # There is a first moment at which a holds, if it holds ever: not so if it held always.
        first = all_of(LETTER_A, always_earlier(denied(LETTER_A)))
        ever = either(LETTER_A, earlier(LETTER_A))
        self.assertIs(is_always(either(denied(ever), either(first, earlier(first)))), False)


class Alike(unittest.TestCase):
    def same(self, one, other):
        for _ in range(2):
            self.assertIsNone(alike(one, other))
            self.assertIsNone(alike(other, one))

    def other(self, one, other):
        for first, second in ((one, other), (other, one)):
            found = alike(first, second)
            self.assertIsNotNone(found)
            row, moment = found
            self.assertIsNone(check_row(row))
            self.assertNotEqual(is_true(first, row, moment), is_true(second, row, moment))
            self.assertEqual(alike(first, second), found)

    def test_sheets_in_other_words(self):
        self.same(K, K)
        self.same(UNTIL, next_one(either(LETTER_B, all_of(LETTER_A, UNTIL))))
        self.same(SINCE, one_ago(either(LETTER_B, all_of(LETTER_A, SINCE))))
        self.same(denied(denied(K)), K)
        self.same(later(either(LETTER_A, LETTER_B)), either(later(LETTER_A), later(LETTER_B)))
        self.same(next_one(all_of(LETTER_A, LETTER_B)), all_of(next_one(LETTER_A), next_one(LETTER_B)))
        self.same(put("since", either(LETTER_A, LETTER_B), LETTER_C),
                  either(put("since", LETTER_A, LETTER_C), put("since", LETTER_B, LETTER_C)))
        self.same(later(later(LETTER_A)), next_one(later(LETTER_A)))
        self.same(next_one(one_ago(LETTER_A)), LETTER_A)
        self.same(put("until", LETTER_A, LETTER_A), next_one(LETTER_A))
        self.same(later(YES), YES)
        # The split sheet that says the same as K.
        split = either(earlier(all_of(LETTER_B, earlier(LETTER_A))),
                       all_of(earlier(LETTER_A), either(LETTER_B, later(LETTER_B))))
        self.same(K, split)

    def test_sheets_that_do_not_mean_the_same(self):
        self.other(LETTER_A, LETTER_B)
        self.other(UNTIL, SINCE)
        self.other(UNTIL, later(LETTER_B))
        self.other(later(later(LETTER_A)), later(LETTER_A))
        self.other(K, earlier(LETTER_A))
        self.other(YES, either(LETTER_A, later(LETTER_A)))
        self.other(put("until", LETTER_A, LETTER_B), put("until", LETTER_B, LETTER_A))
        self.other(always_later(later(LETTER_A)), later(always_later(LETTER_A)))

    def test_where_just_one_of_many_rows_tells_them_apart(self):
        # Alike unless a is always so: a beginning is missing there.
        first = all_of(LETTER_A, always_earlier(denied(LETTER_A)))
        self.other(earlier(first), earlier(LETTER_A))

    def test_many_pairs(self):
        chance = random.Random(102)
        found = {True: 0, False: 0}
        while min(found.values()) < 30:
            one = a_sheet(chance, chance.randint(1, 6), letters=("a",))
            other = a_sheet(chance, chance.randint(1, 6), letters=("a",))
            if not fits(put("and", one, other)):
                continue
            is_same = alike(one, other) is None
            found[is_same] += 1
            if is_same:
                self.same(one, other)
                for row in small_rows()[::7]:
                    self.assertEqual(truth_row(one, row), truth_row(other, row))
            else:
                self.other(one, other)

    def test_letters_of_both(self):
        self.assertEqual(letters_in(put("and", LETTER_A, LETTER_C)), ["a", "c"])
        self.other(all_of(LETTER_A, either(LETTER_C, denied(LETTER_C))), LETTER_C)
        self.same(all_of(LETTER_A, either(LETTER_C, denied(LETTER_C))), LETTER_A)


if __name__ == "__main__":
    unittest.main()
