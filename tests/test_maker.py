"""Lines that are made for drawing: what plainly says the same as shorter lines is not made."""

import unittest

from splitsays.maker import Maker
from splitsays.truths import truths
from tests.plain import R
from tests.plainsheets import YES

LINES = (("letter", "a"), ("letter", "b"), ("until", 0, 1), ("not", 0))
A, B, UNTIL, NOT_A = range(4)


class Made(unittest.TestCase):
    def setUp(self):
        self.maker = Maker(LINES)

    def test_each_line_once(self):
        self.assertEqual([self.maker.number_of(line) for line in LINES], [0, 1, 2, 3])
        numbers = [self.maker.both(A, B), self.maker.either(A, B)]
        self.assertEqual([self.maker.lines[number] for number in numbers], [("and", 0, 1), ("or", 0, 1)])
        self.assertEqual([self.maker.both(A, B), self.maker.either(A, B)], numbers)
        self.assertEqual(self.maker.lines[:4], list(LINES))
        self.assertEqual(len(set(self.maker.lines)), len(self.maker.lines))

    def test_the_lines_that_are_passed_stay(self):
        lines = list(LINES)
        Maker(lines).both(A, B)
        self.assertEqual(lines, list(LINES))

    def test_denied(self):
        self.assertEqual(self.maker.negation(A), NOT_A)
        self.assertEqual(self.maker.negation(NOT_A), A)
        self.assertEqual(self.maker.negation(self.maker.yes()), self.maker.no())
        self.assertEqual(self.maker.negation(self.maker.no()), self.maker.yes())
        self.assertEqual(self.maker.constant(True), self.maker.yes())
        self.assertEqual(self.maker.constant(False), self.maker.no())

    def test_both(self):
        yes, no = self.maker.yes(), self.maker.no()
        for one, other, made in ((A, A, A), (A, yes, A), (yes, A, A), (A, no, no), (no, A, no), (A, NOT_A, no),
                                 (NOT_A, A, no), (yes, no, no), (no, yes, no), (yes, yes, yes), (no, no, no)):
            self.assertEqual(self.maker.both(one, other), made)
        self.assertEqual(len(self.maker.lines), len(LINES) + 2)
        self.assertEqual(self.maker.lines[self.maker.both(B, A)], ("and", B, A))

    def test_either(self):
        yes, no = self.maker.yes(), self.maker.no()
        for one, other, made in ((A, A, A), (A, no, A), (no, A, A), (A, yes, yes), (yes, A, yes), (A, NOT_A, yes),
                                 (NOT_A, A, yes), (yes, no, yes), (no, yes, yes), (yes, yes, yes), (no, no, no)):
            self.assertEqual(self.maker.either(one, other), made)
        self.assertEqual(len(self.maker.lines), len(LINES) + 2)
        self.assertEqual(self.maker.lines[self.maker.either(B, A)], ("or", B, A))

    def test_choice(self):
        yes, no = self.maker.yes(), self.maker.no()
        either, both = self.maker.either, self.maker.both
        for if_true, if_false, made in ((B, B, B), (yes, no, A), (no, yes, NOT_A), (yes, B, either(A, B)),
                                        (no, B, both(NOT_A, B)), (B, yes, either(NOT_A, B)), (B, no, both(A, B)),
                                        (B, UNTIL, either(both(A, B), both(NOT_A, UNTIL)))):
            self.assertEqual(self.maker.choice(A, if_true, if_false), made)

    def test_look(self):
        yes, no = self.maker.yes(), self.maker.no()
        for word in ("until", "since"):
            for other in (A, yes, no):
                self.assertEqual(self.maker.look(word, yes, other), yes)
                self.assertEqual(self.maker.look(word, no, other), no)
            self.assertEqual(self.maker.lines[self.maker.look(word, A, yes)], (word, A, yes))
            self.assertEqual(self.maker.lines[self.maker.look(word, A, no)], (word, A, no))

    def test_mixed_lines_told_anew(self):
        told = {A: B, B: self.maker.yes(), UNTIL: NOT_A}
        for line, made in ((("not", UNTIL), A), (("and", A, B), B), (("or", A, B), self.maker.yes())):
            self.assertEqual(self.maker.mixed(line, 77, told), made)
        for number in (A, UNTIL):
            self.assertEqual(self.maker.mixed(LINES[number], number, told), number)
        self.assertEqual(self.maker.mixed(YES[0], 5, told), 5)

    def test_what_is_made_says_what_it_should(self):
        maker, numbers = self.maker, [A, B, UNTIL, NOT_A, self.maker.yes(), self.maker.no()]
        for one in numbers:
            for other in numbers:
                made = [maker.both(one, other), maker.either(one, other), maker.look("since", one, other),
                        maker.look("until", one, other), maker.negation(one)]
                plain = tuple((word, one, other) for word in ("and", "or", "since", "until")) + (("not", one),)
                for moment in range(-3, 8):
                    found = truths(tuple(maker.lines) + plain, R, moment)
                    self.assertEqual([found[number] for number in made], found[-5:])


if __name__ == "__main__":
    unittest.main()
