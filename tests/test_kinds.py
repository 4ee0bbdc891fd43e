"""[S5.1] to [S5.4], [0.2] and the interface: splitsays/kinds.py."""

import itertools
import unittest

from splitsays.kinds import is_future, is_now, is_past, is_split, kind, rests_on, touched, turns, weight
from splitsays.sheets import denied, mirrored_sheet, put, tidy
from tests.plainsheets import K, LETTER_A, LETTER_B, LOOSE, YES, chained, needs, sheets

UNTIL = LETTER_A + LETTER_B + (("until", 0, 1),)
SINCE = LETTER_A + LETTER_B + (("since", 0, 1),)
SOME = [K, YES, LOOSE, LETTER_A, UNTIL, SINCE, denied(K)] + sheets(110, 300, lines=12)
LOOKING = ("letter", "until", "since")
OPPOSITE = {"until": "since", "since": "until"}


def members(line):
    return () if line[0] == "letter" else line[1:]


def plainly_touched(sheet, number):
    found = set()
    for member in members(sheet[number]):
        if sheet[member][0] in LOOKING:
            found.add(member)
        else:
            found |= plainly_touched(sheet, member)
    return found


def plainly_needed(sheet, word):
    return [number for number in sorted(needs(sheet, len(sheet) - 1)) if sheet[number][0] == word]


def plainly_rests_on(sheet):
    last = len(sheet) - 1
    return {last} if sheet[last][0] in LOOKING else plainly_touched(sheet, last)


def plainly_of(sheet, word):
    words = {sheet[number][0] for number in plainly_rests_on(sheet)}
    return words <= {word} and not plainly_needed(sheet, OPPOSITE[word])


def plainly_split(sheet):
    for word, opposite in OPPOSITE.items():
        for number in plainly_needed(sheet, word):
            if any(sheet[at][0] == opposite for at in needs(sheet, number)):
                return False
    return True


def plain_turns(sheet):
    """By all lists of lines, each with the number of the next one."""
    def most(number, before):
        line = sheet[number]
        now = line[0] if line[0] in OPPOSITE else before
        changed = 1 if before is not None and now != before else 0
        return changed + max([most(member, now) for member in members(line)], default=0)

    return most(len(sheet) - 1, None)


def plain_weight(sheet):
    """The weight by the words of S5.4, each power worked out, but 10 ** 9 for all that are greater."""
    powers = {}
    for number in sorted(needs(sheet, len(sheet) - 1)):
        line = sheet[number]
        if line[0] not in OPPOSITE:
            continue
        opposite = OPPOSITE[line[0]]
        total = sum(powers[at] for at in needs(sheet, number) - {number} if sheet[at][0] == opposite)
        first, second = needs(sheet, line[1]), needs(sheet, line[2])
        if (sheet[line[1]][0] == opposite and not any(sheet[at][0] == line[0] for at in first)
                and not any(sheet[at][0] == opposite for at in second)):
            powers[number] = 2 * 5 ** min(total - 1, 20)
        else:
            powers[number] = 5 ** min(total, 20)
    return sum(powers.values())


def of_letters(word, many):
    """So many lines of a word, each of other letters, and the sheet that says that all of them are true."""
    sheet = None
    for at in range(many):
        one = ((("letter", f"x{at}"),) + LETTER_A + ((word, 0, 1),))
        sheet = one if sheet is None else put("and", sheet, one)
    return sheet


class Touched(unittest.TestCase):
    def test_the_examples(self):
        self.assertEqual(touched(K, 5), [0, 3])
        self.assertEqual(touched(K, 3), [1])
        self.assertEqual(touched(K, 0), [])
        self.assertEqual(rests_on(K), [5])

    def test_more_by_hand(self):
        self.assertEqual(touched(K, 2), [])
        self.assertEqual(touched(K, 4), [0, 3])
        # Through until and since lines nothing is touched, and yes never is.
        sheet = UNTIL + YES + (("not", 2), ("and", 4, 3), ("or", 5, 1), ("since", 6, 6), ("or", 7, 6))
        self.assertEqual(touched(sheet, 6), [1, 2])
        self.assertEqual(touched(sheet, 7), [1, 2])
        self.assertEqual(touched(sheet, 8), [1, 2, 7])
        self.assertEqual(rests_on(sheet), [1, 2, 7])
        self.assertEqual(rests_on(sheet[:8]), [7])
        self.assertEqual(rests_on(sheet[:6]), [2])

    def test_what_a_sheet_rests_on(self):
        self.assertEqual(rests_on(LETTER_A), [0])
        self.assertEqual(rests_on(YES), [])
        self.assertEqual(rests_on(denied(YES)), [])
        self.assertEqual(rests_on(put("or", denied(YES), YES)), [])
        self.assertEqual(rests_on(UNTIL), [2])
        self.assertEqual(rests_on(put("and", UNTIL, SINCE)), [2, 5])
        # Lines that are built alike are told each by its own number.
        self.assertEqual(rests_on(put("and", LETTER_A, LETTER_A)), [0, 1])

    def test_against_the_words(self):
        for sheet in SOME:
            self.assertEqual(rests_on(sheet), sorted(plainly_rests_on(sheet)))
            for number in range(len(sheet)):
                self.assertEqual(touched(sheet, number), sorted(plainly_touched(sheet, number)))

    def test_lists_are_new_each_time(self):
        for told in (lambda: touched(K, 5), lambda: rests_on(K), lambda: rests_on(YES)):
            one, other = told(), told()
            self.assertIs(type(one), list)
            one.append(7)
            self.assertEqual(told(), other)


class Kinds(unittest.TestCase):
    def check(self, sheet, told):
        self.assertEqual(kind(sheet), told)
        self.assertIs(is_now(sheet), not plainly_needed(sheet, "until") and not plainly_needed(sheet, "since"))
        self.assertIs(is_past(sheet), plainly_of(sheet, "since"))
        self.assertIs(is_future(sheet), plainly_of(sheet, "until"))
        self.assertIs(is_split(sheet), plainly_split(sheet))

    def test_each_kind(self):
        self.check(LETTER_A, "now")
        self.check(put("and", LETTER_A, denied(LETTER_B)), "now")
        self.check(SINCE, "past")
        self.check(put("or", denied(SINCE), put("since", SINCE, put("and", SINCE, LETTER_A))), "past")
        self.check(UNTIL, "future")
        self.check(put("and", put("until", UNTIL, LETTER_A), denied(UNTIL)), "future")
        self.check(put("and", SINCE, LETTER_A), "split")
        self.check(put("or", UNTIL, LETTER_A), "split")
        self.check(put("or", UNTIL, SINCE), "split")
        self.check(K, "mixed")
        self.check(mirrored_sheet(K), "mixed")
        self.check(put("until", SINCE, YES), "mixed")
        self.check(put("since", YES, UNTIL), "mixed")

    def test_sheets_that_rest_on_nothing(self):
        for sheet in (YES, denied(YES), put("and", YES, denied(denied(YES)))):
            self.check(sheet, "now")
            for told in (is_now, is_past, is_future, is_split):
                self.assertIs(told(sheet), True)

    def test_sheets_of_the_past_with_yes(self):
        self.check(put("since", YES, YES), "past")
        self.check(put("and", put("until", YES, YES), YES), "future")

    def test_what_looks_from_within(self):
        # It rests on since lines alone, but an until line is needed within.
        sheet = put("since", UNTIL, LETTER_A)
        self.assertIs(is_past(sheet), False)
        self.check(sheet, "mixed")
        self.check(put("and", K, UNTIL), "mixed")

    def test_not_only_what_is_touched_counts(self):
        self.check(put("since", put("since", put("since", UNTIL, YES), YES), YES), "mixed")
        self.check(put("until", put("until", put("until", SINCE, YES), YES), YES), "mixed")

    def test_lines_that_are_not_needed_play_no_role(self):
        for sheet in (K + YES, UNTIL + SINCE[:2] + YES, LOOSE + LETTER_A):
            self.check(sheet, "now")
        self.check(UNTIL + LETTER_A + LETTER_B + (("since", 3, 4),), "past")
        self.check(K + (("since", 0, 1),), "past")

    def test_against_the_words(self):
        found = set()
        for sheet in SOME:
            found.add(kind(sheet))
            if not plainly_needed(sheet, "until") and not plainly_needed(sheet, "since"):
                told = "now"
            elif plainly_of(sheet, "since"):
                told = "past"
            elif plainly_of(sheet, "until"):
                told = "future"
            else:
                told = "split" if plainly_split(sheet) else "mixed"
            self.check(sheet, told)
        self.assertEqual(len(found), 5)


class Turns(unittest.TestCase):
    def test_by_hand(self):
        self.assertEqual(turns(K), 1)
        for sheet in (YES, LETTER_A, UNTIL, SINCE, put("and", UNTIL, SINCE), put("until", UNTIL, UNTIL), denied(SINCE)):
            self.assertEqual(turns(sheet), 0)
        sheet = LETTER_A + YES
        for many in range(1, 30):
            sheet += ((("since", "until")[many % 2], len(sheet) - 1, 1), ("and", 0, len(sheet)))
            self.assertEqual(turns(sheet), many - 1)
            self.assertEqual(turns(mirrored_sheet(sheet)), many - 1)
            self.assertEqual(turns(sheet + YES), 0)

    def test_lines_of_one_word_between(self):
        sheet = put("since", put("since", put("and", LETTER_A, put("until", put("until", SINCE, YES), YES)), YES), YES)
        self.assertEqual(turns(sheet), 2)
        self.assertEqual(turns(put("or", sheet, UNTIL)), 2)
        self.assertEqual(turns(put("until", UNTIL, sheet)), 3)
        self.assertEqual(turns(put("since", UNTIL, sheet)), 2)

    def test_against_the_words(self):
        for sheet in SOME:
            self.assertEqual(turns(sheet), plain_turns(sheet))
            if is_split(sheet):
                self.assertEqual(turns(sheet), 0)

    def test_a_line_told_from_the_one_ahead_twice(self):
        sheet = LETTER_A + tuple((("until", "since")[at % 2], at, at) for at in range(59))
        self.assertEqual(turns(sheet), 58)
        sheet = LETTER_A + tuple(("until", at, at) for at in range(59))
        self.assertEqual(turns(sheet), 0)


class Weights(unittest.TestCase):
    def test_the_examples(self):
        self.assertEqual(weight(K), 6)
        three = of_letters("until", 3)
        self.assertEqual(weight(put("since", three, YES)), 128)
        inner = LETTER_A + LETTER_B + (("since", 0, 1), ("until", 2, 1))
        self.assertEqual(weight(inner), 3)
        self.assertEqual(weight(put("since", inner, YES)), 28)
        inner = LETTER_A + LETTER_B + (("since", 0, 1), ("and", 2, 0), ("until", 3, 1))
        self.assertEqual(weight(inner), 6)
        self.assertIsNone(weight(put("since", inner, YES)))

    def test_small_ones(self):
        for sheet, many in ((YES, 0), (LETTER_A, 0), (UNTIL, 1), (SINCE, 1), (put("and", UNTIL, SINCE), 2),
                            (put("until", UNTIL, UNTIL), 3), (put("since", UNTIL, LETTER_A), 3),
                            (put("since", LETTER_A, UNTIL), 6), (put("since", UNTIL, UNTIL), 27),
                            (put("since", denied(UNTIL), LETTER_A), 6),
                            (put("since", put("until", UNTIL, YES), YES), 12),
                            (put("since", UNTIL, SINCE), 4), (put("since", SINCE, UNTIL), 7)):
            self.assertEqual(weight(sheet), many, sheet)
            self.assertEqual(weight(mirrored_sheet(sheet)), many)

    def test_lines_that_are_built_alike_count_each(self):
        self.assertEqual(weight(put("and", UNTIL, UNTIL)), 2)
        self.assertEqual(weight(tidy(put("and", UNTIL, UNTIL))), 1)
        self.assertEqual(weight(put("since", put("or", UNTIL, UNTIL), YES)), 27)
        self.assertEqual(weight(tidy(put("since", put("or", UNTIL, UNTIL), YES))), 6)

    def test_a_line_counts_once_however_often_it_is_told(self):
        sheet = UNTIL + (("and", 2, 2), ("or", 3, 2), ("since", 4, 4), ("and", 5, 4))
        self.assertEqual(weight(sheet), 6)

    def test_lines_that_are_not_needed_play_no_role(self):
        self.assertEqual(weight(of_letters("until", 40) + YES), 0)
        self.assertEqual(weight(K + (("until", 0, 1),)), 1)
        self.assertEqual(weight(K + (("until", 0, 1), ("since", 6, 6))), 6)

    def test_at_the_limit_and_just_above(self):
        for word in OPPOSITE:
            self.assertEqual(weight(of_letters(word, 129)), 129)
            self.assertEqual(weight(of_letters(word, 130)), 130)
            self.assertIsNone(weight(of_letters(word, 131)))
        heavy = put("since", of_letters("until", 3), YES)
        self.assertEqual(weight(put("and", heavy, UNTIL)), 129)
        self.assertEqual(weight(put("and", put("and", heavy, UNTIL), UNTIL)), 130)
        self.assertIsNone(weight(put("and", put("and", heavy, of_letters("since", 2)), UNTIL)))
        self.assertEqual(weight(put("and", heavy, of_letters("since", 2))), 130)
        self.assertIsNone(weight(put("since", of_letters("until", 4), YES)))
        # The first member is an until line itself: 2 * 5 ** 2 and 2 * 5 ** 3.
        chain = put("until", put("until", UNTIL, YES), YES)
        self.assertEqual(weight(put("since", chain, YES)), 3 + 50)
        self.assertIsNone(weight(put("since", put("until", chain, YES), YES)))

    def test_far_above(self):
        sheet = LETTER_A + YES
        for at in range(200):
            sheet += ((("since", "until")[at % 2], len(sheet) - 1, 0), ("and", 0, len(sheet)))
        self.assertIsNone(weight(sheet))
        self.assertIsNone(weight(put("since", of_letters("until", 300), YES)))

    def test_against_the_words(self):
        found = set()
        for sheet in SOME + [put(word, one, other) for word in OPPOSITE
                             for one, other in itertools.product(SOME[:40], SOME[4:24])]:
            told = plain_weight(sheet)
            self.assertEqual(weight(sheet), told if told <= 130 else None, sheet)
            found.add(weight(sheet))
        self.assertGreater(len(found), 30)


class Deep(unittest.TestCase):
    def test_chains_of_twenty_thousand_lines(self):
        for words, told in ((("since",), "past"), (("until",), "future")):
            sheet = chained(19990, words, start=LETTER_A + YES)
            # The last lines say that not both a letter and what is ahead of them is true.
            self.assertEqual(kind(sheet), "split")
            self.assertEqual(kind(sheet[:-2]), told)
            self.assertEqual(kind(denied(sheet[:-2])), told)
            self.assertEqual(turns(sheet), 0)
            self.assertIsNone(weight(sheet))
            self.assertIs(is_split(sheet), True)
        sheet = chained(19990)
        self.assertEqual(kind(sheet), "mixed")
        self.assertGreater(turns(sheet), 3000)
        self.assertIsNone(weight(sheet))
        self.assertEqual(touched(sheet, len(sheet) - 1), rests_on(sheet))

    def test_many_lines_of_little_weight(self):
        sheet = UNTIL
        while len(sheet) < 19990:
            sheet += (("not", len(sheet) - 1), ("and", len(sheet), 0), ("or", len(sheet) + 1, len(sheet) - 1))
        self.assertEqual(weight(sheet), 1)
        self.assertEqual(kind(sheet), "split")
        self.assertEqual(rests_on(sheet), [0, 2])
        sheet = sheet + (("since", len(sheet) - 1, 0),)
        self.assertEqual((weight(sheet), kind(sheet), turns(sheet)), (6, "mixed", 1))
        self.assertEqual(touched(sheet, len(sheet) - 1), [0, 2])

    def test_a_hundred_and_thirty_lines_in_each_of_thousands(self):
        sheet = of_letters("until", 130)
        while len(sheet) < 9990:
            sheet += (("not", len(sheet) - 1), ("or", len(sheet), len(sheet) - 1))
        self.assertEqual(weight(sheet), 130)
        self.assertEqual(kind(sheet), "future")


if __name__ == "__main__":
    unittest.main()
