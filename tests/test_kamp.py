"""[S9.2], [S9.3], [0.2] and the interface: splitsays/kamp.py."""

import random
import unittest

from splitsays.canbe import alike, is_always
from splitsays.claims import breadth, check_claim, claim_truth, free_names
from splitsays.kamp import claim_of, saying_of
from splitsays.rows import shifted
from splitsays.sheets import check_sheet, denied, letters_in, mirrored_sheet, needed, part, put
from splitsays.truths import truth
from tests.plain import FAR, a_row, rows
from tests.plainclaims import claims, comparing_claims, depth_of, is_claim_true, parts
from tests.plainsheets import K, LETTER_A, LETTER_B, LOOSE, YES, sheets

LETTERS = ("a", "b", "c", "d")


def mark(letter, name):
    return ("mark", letter, name)


def before(one, other):
    return ("before", one, other)


def some(name, *told):
    return ("some", name, both(*told))


def both(*told):
    return told[0] if len(told) == 1 else ("and", both(*told[:-1]), told[-1])


def no(claim):
    return ("not", claim)


def marks_in(claim):
    return {found[1] for found in parts(claim) if found[0] == "mark"}


AB = LETTER_A + LETTER_B
# Each moment between the two has b.
BETWEEN = ("each", "y", ("or", no(both(before("t", "y"), before("y", "x"))), mark("b", "y")))
SINCE = ("each", "y", ("or", no(both(before("x", "y"), before("y", "t"))), mark("b", "y")))


class Sayings(unittest.TestCase):
    def check(self, claim, seed=0, many=4, moments=range(-5, 8)):
        made = saying_of(claim)
        self.assertIsNone(check_sheet(made))
        self.assertLessEqual(set(letters_in(made)), marks_in(claim))
        for row in rows(seed, many, letters=LETTERS):
            for moment in moments:
                self.assertIs(truth(made, row, moment), claim_truth(claim, row, moment), (claim, row, moment))
        self.assertEqual(saying_of(claim), made)
        return made

    def same(self, claim, sheet):
        self.assertIsNone(alike(self.check(claim), sheet), claim)

    def test_until_and_since(self):
        until = AB + (("until", 0, 1),)
        self.same(some("x", before("t", "x"), mark("a", "x"), BETWEEN), until)
        self.same(some("x", before("x", "t"), mark("a", "x"), SINCE), mirrored_sheet(until))
        self.same(some("x", before("t", "x"), mark("a", "x")), AB[:1] + YES + (("until", 0, 1),))
        self.same(some("x", before("x", "t"), mark("a", "x")), AB[:1] + YES + (("since", 0, 1),))

    def test_the_next_moment_and_the_one_before(self):
        none = AB[:1] + YES + (("not", 1),)
        is_next = no(("some", "y", both(before("t", "y"), before("y", "x"))))
        self.same(some("x", before("t", "x"), is_next, mark("a", "x")), none + (("until", 0, 2),))
        self.same(("each", "x", ("or", no(both(before("t", "x"), is_next)), mark("a", "x"))), none + (("until", 0, 2),))
        was_last = no(("some", "y", both(before("x", "y"), before("y", "t"))))
        self.same(some("x", before("x", "t"), was_last, mark("a", "x")), none + (("since", 0, 2),))

    def test_a_moment_that_is_the_same(self):
        self.same(some("x", ("same", "x", "t"), mark("a", "x")), LETTER_A)
        self.same(some("x", ("same", "t", "x"), mark("a", "x")), LETTER_A)
        self.same(("each", "x", ("or", no(("same", "t", "x")), mark("a", "x"))), LETTER_A)
        self.same(some("x", no(("same", "x", "t")), mark("a", "x")),
                  LETTER_A + YES + (("until", 0, 1), ("since", 0, 1), ("or", 2, 3)))
        self.same(("same", "t", "t"), YES)
        self.same(before("t", "t"), denied(YES))
        self.same(some("x", ("same", "x", "x"), before("t", "x")), YES)

    def test_first_and_last_ones(self):
        # At t a holds for the first time, or for the last one; there is a first a at all.
        first = both(mark("a", "t"), no(some("x", before("x", "t"), mark("a", "x"))))
        self.same(first, LETTER_A + YES + (("since", 0, 1), ("not", 2), ("and", 0, 3)))
        last = both(mark("a", "t"), ("each", "x", ("or", no(before("t", "x")), no(mark("a", "x")))))
        self.same(last, LETTER_A + YES + (("until", 0, 1), ("not", 2), ("and", 0, 3)))
        there = some("x", mark("a", "x"), no(some("y", before("y", "x"), mark("a", "y"))))
        self.check(there, 260, many=12)
        self.assertIs(truth(saying_of(there), (3, ((),), (("a",),), (("a",), ())), -FAR), True)
        self.assertIs(truth(saying_of(there), (3, ((), ("a",)), (("a",),), ((),)), 3), False)
        # There is no first moment, and no last one.
        self.same(some("x", no(some("y", before("y", "x")))), denied(YES))
        self.same(("each", "x", ("some", "y", before("x", "y"))), YES)

    def test_no_free_name(self):
        at_all = LETTER_A + YES + (("until", 0, 1), ("since", 0, 1), ("or", 2, 3), ("or", 4, 0))
        self.same(some("x", mark("a", "x")), at_all)
        self.same(some("t", mark("a", "t")), at_all)
        always = LETTER_A + YES + (("not", 0), ("until", 2, 1), ("since", 2, 1), ("or", 3, 4), ("or", 5, 2), ("not", 6))
        self.same(("each", "x", mark("a", "x")), always)
        self.same(some("x", ("each", "y", ("or", mark("a", "y"), ("same", "x", "x")))), YES)
        self.check(some("x", mark("a", "x"), some("y", before("x", "y"), mark("b", "y"))), 261, many=20)

    def test_comparisons_both_ways(self):
        for order in (before("x", "t"), before("t", "x"), no(before("x", "t")), no(before("t", "x"))):
            for inner in (before("x", "y"), before("y", "x"), before("t", "y"), before("y", "t"), ("same", "y", "t"),
                          ("same", "x", "y"), no(before("y", "t")), both(before("x", "y"), before("y", "t"))):
                self.check(some("x", order, mark("a", "x"), some("y", inner, mark("b", "y"))), 262, many=3)
                self.check(("each", "x", ("or", order, ("each", "y", ("or", inner, mark("b", "y"))))), 263, many=3)

    def test_a_look_within_a_look(self):
        # K: at some earlier moment a held, and b held at some moment later than that one.
        self.same(some("x", before("x", "t"), mark("a", "x"), some("y", before("x", "y"), mark("b", "y"))), K)
        # At some moment that is not t, b comes between it and t, and c does at no moment from it on.
        for order in (before, lambda one, other: before(other, one)):
            self.check(some("x", order("x", "t"), some("y", order("x", "y"), order("y", "t"), mark("b", "y")),
                            no(some("y", order("x", "y"), mark("c", "y")))), 264, many=20)

    def test_marks_of_the_given_moment_within(self):
        inner = some("y", before("x", "y"), both(mark("b", "y"), mark("a", "t")))
        self.check(some("x", before("x", "t"), inner), 265, many=12)
        self.check(("each", "x", ("or", ("each", "t", ("or", mark("a", "t"), before("x", "t"))), mark("c", "t"))), 266)
        self.check(some("x", mark("a", "t"), some("t", mark("b", "t"))), 267, many=12)
        self.check(both(mark("a", "t"), some("t", mark("b", "t"), some("x", before("t", "x"), mark("a", "x")))), 268)
        # Parts that do not speak of x at all.
        apart = ("each", "y", ("or", before("t", "y"), mark("b", "y")))
        self.check(some("x", mark("a", "x"), apart, mark("c", "t")), 269)

    def test_letters_that_stand_in_no_mark(self):
        for claim in claims(270, 200, breadth, letters=LETTERS):
            self.assertLessEqual(set(letters_in(saying_of(claim))), marks_in(claim))
        self.assertEqual(letters_in(saying_of(some("x", before("x", "t")))), [])

    def test_names_of_all_kinds(self):
        claim = ("some", "earlier", both(before("earlier", "same"), mark("later", "earlier"), no(mark("e", "same"))))
        made = saying_of(claim)
        self.assertIsNone(alike(made, (("letter", "later"), ("yes",), ("since", 0, 1), ("letter", "e"), ("not", 3),
                                       ("and", 2, 4))))

    def test_many(self):
        for seed, claim in enumerate(claims(271, 150, breadth, letters=LETTERS[:2])):
            self.check(claim, seed, many=2, moments=(-3, -1, 0, 1, 2, 4))

    def test_many_that_compare(self):
        for seed, claim in enumerate(comparing_claims(272, 250, breadth)):
            self.check(claim, seed, many=2, moments=(-3, -1, 0, 1, 2, 4))

    def test_by_the_words(self):
        chance = random.Random(273)
        for claim in claims(274, 40, breadth, size=12) + comparing_claims(275, 20, breadth):
            made = saying_of(claim)
            row = a_row(chance, left=2, middle=2, right=2, first=2, letters=LETTERS)
            for moment in (-1, 2):
                told = is_claim_true(claim, row, {"t": moment}, -16, 20, 8)
                self.assertIs(truth(made, row, moment), told, (claim, row, moment))

    def test_far_away(self):
        chance = random.Random(276)
        for claim in comparing_claims(277, 12, breadth):
            made = saying_of(claim)
            row = shifted(a_row(chance, left=4, middle=6, right=4, letters=LETTERS), FAR)
            for moment in (-FAR, 0, FAR - 2, FAR + 1, FAR + 10 ** 9):
                self.assertIs(truth(made, row, moment), claim_truth(claim, row, moment))

    def test_three_looks_at_what_is_between(self):
        def between(letter):
            return some("y", before("x", "y"), before("y", "t"), mark(letter, "y"))

        claim = some("x", both(between("a"), between("b"), between("c")), mark("d", "x"))
        self.check(claim, 278, many=12)
        claim = some("x", both(between("a"), no(between("b")), ("or", between("c"), mark("d", "x"))))
        self.check(claim, 279, many=12)


class Claims(unittest.TestCase):
    def check(self, sheet):
        claim = claim_of(sheet)
        self.assertIsNone(check_claim(claim))
        self.assertIs(type(claim), tuple)
        self.assertLessEqual(set(free_names(claim)), {"t"})
        self.assertLessEqual(marks_in(claim), set(letters_in(sheet)))
        self.assertEqual(claim_of(sheet), claim)
        return claim

    def check_truths(self, sheet, seed=0, many=3):
        """It is true where the sheet is, with rounds of one lot, the truths being settled soon beside the middle."""
        claim = self.check(sheet)
        for row in rows(seed, many, left=1, middle=3, right=1, first=1, letters=("a", "b", "c")):
            for moment in (-3, -1, 0, 1, 4):
                told = is_claim_true(claim, row, {"t": moment}, -7, 9, 2)
                self.assertIs(told, truth(sheet, row, moment), (sheet, row, moment))

    def test_by_hand(self):
        self.assertEqual(self.check(LETTER_A), mark("a", "t"))
        self.assertIs(claim_truth(self.check(YES), (0, ((),), (), ((),)), FAR), True)
        self.assertIs(claim_truth(self.check(denied(YES)), (0, ((),), (), ((),)), -FAR), False)
        for sheet in (K, mirrored_sheet(K), AB + (("until", 0, 1),), AB + (("since", 0, 1),), put("and", K, LETTER_B),
                      AB + (("or", 0, 1), ("not", 2)), LOOSE[:8], AB + (("until", 0, 0), ("not", 2), ("since", 1, 3))):
            self.check_truths(sheet, 280)

    def test_with_claim_truth(self):
        for sheet in (K, mirrored_sheet(K), AB + (("until", 0, 1),), AB + (("since", 1, 0),), denied(K)):
            claim = self.check(sheet)
            self.assertLessEqual(depth_of(claim), 2)
            for row in rows(281, 5, left=2, middle=3, right=2) + [(FAR, ((),), (("a",), ("b",)), (("a",), ("b",)))]:
                for moment in (-3, 0, 2, FAR, FAR + 1, -FAR):
                    self.assertIs(claim_truth(claim, row, moment), truth(sheet, row, moment))

    def test_there_and_back(self):
        for sheet in (K, mirrored_sheet(K), AB + (("until", 0, 1),), AB + (("since", 1, 0),), LETTER_A, denied(YES)):
            self.assertIsNone(alike(saying_of(claim_of(sheet)), sheet))

    def test_lines_that_are_not_needed(self):
        sheet = (("letter", "z"), ("letter", "a"), ("until", 0, 0), ("not", 1))
        self.assertEqual(marks_in(self.check(sheet)), {"a"})
        self.assertEqual(free_names(claim_of(sheet)), ["t"])

    def test_lines_that_are_needed_often(self):
        # Each line is needed twice by the next one: the claim says each of them again.
        sheet = LETTER_A
        for at in range(7):
            sheet += ((("until", "since")[at % 2], at, at),)
        self.assertEqual(len(needed(sheet)), 8)
        self.check(sheet)
        self.check_truths(sheet[:3], 282)
        self.check(tuple(("and", at - 1, at - 1) if at else ("letter", "a") for at in range(8)))

    def test_many(self):
        looked = 0
        for seed, sheet in enumerate(sheets(283, 400, lines=9, letters=("a", "b", "c"))):
            if len(needed(sheet)) <= 8:
                claim = self.check(sheet)
                if depth_of(claim) <= 3:
                    looked += depth_of(claim) > 0
                    self.check_truths(sheet, seed, many=2)
        self.assertGreater(looked, 60)

    def test_a_since_within_an_until(self):
        sheet = AB + (("since", 0, 1), ("until", 2, 1))
        self.check_truths(sheet, 284, many=2)
        self.check_truths(AB + (("until", 0, 1), ("since", 1, 2)), 285, many=2)

    def test_always(self):
        self.assertIs(is_always(saying_of(claim_of(YES + (("until", 0, 0),)))), True)
        self.assertIsNone(alike(saying_of(claim_of(part(K, 3))), part(K, 3)))


if __name__ == "__main__":
    unittest.main()
