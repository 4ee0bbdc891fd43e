"""[S7.1] to [S7.3], [S6.6], [S5.4], [0.2] and the interface: splitsays/splitting.py."""

import random
import unittest

from splitsays.canbe import alike
from splitsays.drawing import drawn, left_to_draw
from splitsays.errors import SayError, TooGreat
from splitsays.kinds import is_future, is_now, is_past, is_split, kind, rests_on, turns, weight
from splitsays.rows import joined_rows, lot_at, shifted
from splitsays.sheets import check_sheet, denied, letters_in, mirrored_sheet, needed, put, tidy
from splitsays.splitting import cases, left_of, split
from splitsays.tracks import track_of
from splitsays.truths import truth, truth_row
from tests.plain import A, AB, B, FAR, NONE, R, rows
from tests.plainsheets import K, LETTER_A, LETTER_B, LOOSE, YES, is_true, sheets, tree

LETTERS = (("letter", "a"), ("letter", "b"), ("letter", "c"), ("yes",))
# There was a moment from which on the lamp stayed on until the door opened.
LAMP = (("letter", "lamp"), ("letter", "door"), ("until", 1, 0), ("yes",), ("since", 2, 3))
# An until within a since within an until.
WITHIN = LETTERS + (("until", 0, 1), ("since", 4, 2), ("until", 5, 3))
# A since line over three until lines: the sheet has the weight 128.
THREE = LETTERS + (
    ("until", 0, 1), ("until", 1, 2), ("until", 2, 0), ("or", 4, 2), ("and", 5, 7), ("or", 6, 1), ("since", 8, 9),
)


def with_more(sheet, many):
    """A sheet and so many until lines of letters besides, each of which has the power 1."""
    for _ in range(many):
        last = len(sheet) - 1
        sheet += (("until", 0, len(sheet) - 1 if sheet[last][0] == "letter" else 1), ("or", last, len(sheet)))
    return sheet


def looks(sheet):
    return sum(line[0] in ("until", "since") for line in tidy(sheet))


def splittable(seed, many, **limits):
    """So many sheets that are not too great to be split, half of which are mixed at least."""
    found = []
    for sheet in sheets(seed, many * 60, **limits):
        if weight(sheet) is not None and (kind(sheet) == "mixed" or len(found) % 2):
            found.append(sheet)
        if len(found) == many:
            return found
    raise AssertionError("too few sheets")


class Split(unittest.TestCase):
    def check(self, sheet, seed=0, many=10, exactly=False):
        made = split(sheet)
        self.assertIsNone(check_sheet(made))
        self.assertIs(is_split(made), True)
        self.assertLessEqual(set(letters_in(made)), set(letters_in(sheet)))
        for row in rows(seed, many, letters=letters_in(sheet) + ["z"]):
            self.assertEqual(truth_row(made, row), truth_row(sheet, row), (sheet, row))
        if exactly:
            self.assertIsNone(alike(made, sheet))
        self.assertEqual(split(sheet), made)
        return made

    def test_the_sheets_of_the_document(self):
        for sheet in (K, LAMP):
            self.check(sheet, many=40, exactly=True)
            self.check(mirrored_sheet(sheet), many=40, exactly=True)

    def test_the_truths_by_the_words(self):
        for sheet in (K, LAMP, WITHIN, mirrored_sheet(WITHIN)):
            made = split(sheet)
            for row in rows(200, 4, left=2, middle=3, right=2, letters=letters_in(sheet)):
                for moment in range(-4, 5):
                    self.assertEqual(truth(made, row, moment), is_true(sheet, row, moment))

    def test_an_until_within_a_since_within_an_until(self):
        for sheet in (WITHIN, mirrored_sheet(WITHIN)):
            self.assertEqual(turns(sheet), 2)
            self.check(sheet, 201, many=80)
        mixed = LETTERS + (("until", 0, 1), ("since", 4, 2), ("and", 5, 1), ("until", 6, 0))
        for sheet in (mixed, mirrored_sheet(mixed)):
            self.check(sheet, 202, many=60)

    def test_the_examples_of_weights(self):
        over = LETTERS + (("since", 0, 1), ("until", 4, 2), ("since", 5, 3))
        self.assertEqual(weight(over), 28)
        self.check(over, 203, many=60)
        great = LETTERS + (("since", 0, 1), ("and", 4, 0), ("until", 5, 2), ("since", 6, 3))
        for sheet in (great, mirrored_sheet(great)):
            with self.assertRaises(TooGreat):
                split(sheet)

    def test_the_greatest_weight(self):
        self.assertEqual(weight(THREE), 128)
        for more, told in ((0, 128), (1, 129), (2, 130)):
            sheet = with_more(THREE, more)
            self.assertEqual(weight(sheet), told)
            self.check(sheet, 204, many=20)
            self.check(mirrored_sheet(sheet), 204, many=20)
        self.assertIsNone(weight(with_more(THREE, 3)))
        for sheet in (with_more(THREE, 3), mirrored_sheet(with_more(THREE, 3))):
            for _ in range(2):
                with self.assertRaises(TooGreat) as caught:
                    split(sheet)
                self.assertIsInstance(caught.exception, SayError)
                self.assertEqual(vars(caught.exception), {})

    def test_lines_that_are_built_alike_count_each(self):
        def of(many):
            sheet = LETTER_A + LETTER_B + (("until", 0, 1),) * many
            for at in range(3, many + 2):
                sheet += (("and", 2 if at == 3 else len(sheet) - 1, at),)
            return sheet

        self.assertEqual(weight(of(130)), 130)
        self.assertEqual(looks(self.check(of(130), exactly=True)), 1)
        with self.assertRaises(TooGreat):
            split(of(131))

    def test_lines_that_are_not_needed_play_no_role(self):
        great = LETTERS + (("since", 0, 1), ("and", 4, 0), ("until", 5, 2), ("since", 6, 3))
        self.check(great + LETTER_B)
        self.check(LOOSE, 205, many=40, exactly=True)

    def test_split_sheets_are_split_again(self):
        for sheet in (YES, LETTER_A, denied(YES), put("and", LETTER_A, LETTER_B), LETTERS + (("until", 0, 3),),
                      LETTERS + (("since", 0, 3), ("until", 1, 0), ("or", 4, 5), ("not", 6))):
            self.check(sheet, exactly=True)
        again = 0
        for sheet in (K, LAMP, mirrored_sheet(K), WITHIN) + tuple(splittable(206, 60, lines=9)):
            made = split(sheet)
            if weight(made) is not None:
                self.check(made)
                again += 1
        self.assertGreater(again, 40)

    def test_many(self):
        found = {}
        for seed, sheet in enumerate(splittable(207, 150, lines=14, letters=("a", "b", "c"))):
            made = self.check(sheet, seed, many=6)
            found[kind(sheet)] = True
            if looks(put("and", sheet, made)) <= 5:
                self.assertIsNone(alike(sheet, made))
        self.assertIn("mixed", found)

    def test_members_that_mix_much(self):
        chance = random.Random(208)
        for seed in range(30):
            lines = list(LETTERS)
            for word, many in (("until", 2), ("since", 2)) if seed % 2 else (("until", 3), ("since", 1)):
                for _ in range(many):
                    for _ in range(5):
                        mixing = chance.choice(("not", "and", "or"))
                        lines.append((mixing, *chance.sample(range(len(lines)), 1 if mixing == "not" else 2)))
                    lines.append((word, len(lines) - 1, len(lines) - chance.randint(2, 4)))
            sheet = tuple(lines)
            if weight(sheet) is not None:
                self.check(sheet if seed % 4 else mirrored_sheet(sheet), seed, many=6)

    def test_what_drawn_returned(self):
        done = 0
        for seed, sheet in enumerate((K, LAMP, THREE, WITHIN) + tuple(splittable(209, 60, lines=12))):
            for k, j in left_to_draw(sheet):
                inner = [sheet[at][0] for at in needed(sheet[:j + 1])]
                if sheet[k][0] not in inner and not any(at in [by for by, _ in left_to_draw(sheet[:k])]
                                                        for at in needed(sheet[:k + 1])):
                    made = drawn(sheet, k, j)
                    if weight(made) is not None:
                        done += 1
                        self.check(made, seed, many=4)
        self.assertGreater(done, 15)

    def test_rows_that_begin_far_away(self):
        made = split(LAMP)
        row = (FAR, (NONE,), (("lamp",), ("lamp",), ("door",)), (NONE, ("lamp",)))
        for moment in (FAR - 1, FAR, FAR + 1, FAR + 2, FAR + 3, FAR + 10 ** 6, -FAR, 3 * FAR):
            self.assertEqual(truth(made, row, moment), truth(LAMP, row, moment))
        self.assertIs(truth(made, row, FAR - 1), False)
        self.assertIs(truth(made, row, FAR + 1), True)


class Cases(unittest.TestCase):
    def check(self, sheet, seed=0, many=6):
        found = cases(sheet)
        self.assertIs(type(found), list)
        self.assertLessEqual(len(found), 512)
        for triple in found:
            self.assertIs(type(triple), tuple)
            past, now, future = triple
            self.assertTrue(is_past(past) and is_now(now) and is_future(future), triple)
            for told in triple:
                self.assertIsNone(check_sheet(told))
                self.assertLessEqual(set(letters_in(told)), set(letters_in(sheet)))
        for row in rows(seed, many, letters=letters_in(sheet) + ["z"]):
            tracks = [[track_of(told, row) for told in triple] for triple in found]
            whole = track_of(sheet, row)
            for moment in list(range(-12, 13)) + [FAR, -FAR]:
                true = [triple for triple in tracks if all(lot_at(track, moment) for track in triple)]
                self.assertEqual(len(true), 1 if lot_at(whole, moment) else 0, (sheet, row, moment))
        self.assertEqual(cases(sheet), found)
        return found

    def test_by_hand(self):
        self.check(split(K), many=40)
        self.check(split(LAMP), many=40)
        self.check(YES)
        self.check(LETTER_A)
        self.check(denied(LETTER_A))
        self.check(LETTERS[:2] + (("until", 0, 1),))
        self.check(LETTERS[:2] + (("since", 0, 1), ("not", 2)))
        self.assertEqual(self.check(denied(YES)), [])

    def test_now_past_and_future_together(self):
        sheet = LETTERS[:3] + (("until", 0, 1), ("since", 1, 2), ("and", 3, 4), ("or", 5, 2), ("not", 3), ("or", 6, 7))
        self.check(sheet, 210, many=40)

    def test_tidy_split_sheets(self):
        chance = random.Random(211)
        done = 0
        for seed in range(60):
            lines = list(LETTERS)
            pasts, futures = [0, 1, 2], [0, 1, 2]
            for word, own, many in (("since", pasts, chance.randint(0, 6)), ("until", futures, chance.randint(0, 4))):
                for _ in range(many):
                    one, other = chance.choice(own), chance.choice(own + [3])
                    if chance.random() < 0.4:
                        lines.append(("not", one))
                        one = len(lines) - 1
                    lines.append((word, one, other))
                    own.append(len(lines) - 1)
            ends = pasts + futures[3:]
            for _ in range(6):
                mixing = chance.choice(("not", "and", "or"))
                lines.append((mixing, *[chance.choice(ends) for _ in range(1 if mixing == "not" else 2)]))
                ends.append(len(lines) - 1)
            sheet = tidy(tuple(lines))
            words = [sheet[at][0] for at in rests_on(sheet)]
            if is_split(sheet) and words.count("until") <= 4 and words.count("letter") <= 3:
                done += 1
                self.check(sheet, seed, many=4)
        self.assertGreater(done, 40)

    def test_the_greatest_sheets_that_callers_pass(self):
        # It rests on four until lines, three letters and forty since lines.
        lines = list(LETTERS)
        for one, other in ((0, 1), (1, 2), (2, 0), (0, 2)):
            lines.append(("until", one, other))
        for at in range(40):
            lines.append(("since", at % 3 if at < 3 else len(lines) - 1, (at + 1) % 3))
        total = 0
        for at in list(range(1, 3)) + list(range(4, 48)):
            lines.append(("and" if at % 2 else "or", total, at))
            total = len(lines) - 1
        self.assertLessEqual(len(self.check(tidy(tuple(lines)), 212)), 128)

    def test_what_split_returned(self):
        twice = LETTERS[:3] + (
            ("until", 0, 1), ("and", 3, 2), ("or", 3, 1), ("since", 4, 5),
            ("since", 1, 2), ("and", 7, 0), ("or", 7, 2), ("until", 8, 9), ("and", 6, 10), ("not", 11), ("or", 12, 0),
        )
        self.assertEqual((turns(twice), turns(mirrored_sheet(twice))), (1, 1))
        both = LETTERS[:3] + (("until", 0, 1), ("until", 3, 2), ("not", 4), ("or", 3, 5), ("since", 6, 4),
                              ("and", 7, 4), ("since", 8, 3), ("or", 9, 7))
        for sheet in (twice, mirrored_sheet(twice), both, mirrored_sheet(both)):
            made = split(sheet)
            self.assertGreater(len(rests_on(made)), 6)
            self.check(made, 213)

    def test_what_split_returned_of_many(self):
        done = 0
        for seed, sheet in enumerate(sheets(214, 1500, lines=12, letters=("a", "b", "c"))):
            words = [sheet[at][0] for at in needed(sheet)]
            if turns(sheet) == 1 and words.count("until") <= 2 and words.count("since") <= 2:
                done += 1
                self.check(split(sheet), seed, many=3)
        self.assertGreater(done, 60)

    def test_lists_are_new_each_time(self):
        one = cases(split(K))
        one.clear()
        self.assertNotEqual(cases(split(K)), [])


class Left(unittest.TestCase):
    def check(self, sheet, row, moment, others):
        left = left_of(sheet, row, moment)
        self.assertIsNone(check_sheet(left))
        self.assertIs(is_future(left), True)
        self.assertLessEqual(set(letters_in(left)), set(letters_in(sheet)))
        for other in others:
            self.assertEqual(truth(left, other, moment), truth(sheet, other, moment), (sheet, row, moment, other))
        self.assertEqual(left_of(sheet, row, moment), left)
        return left

    def joined(self, row, moment, seed, many=6):
        """Rows with the same lots up to a moment and others later."""
        return [row] + [joined_rows(row, other, moment) for other in rows(seed, many, letters=("a", "b", "c"))]

    def test_by_hand(self):
        until = LETTER_A + LETTER_B + (("until", 0, 1),)
        self.assertIsNone(alike(left_of(until, R, 0), until))
        self.assertIsNone(alike(left_of(LETTER_A, R, 0), YES))
        self.assertIsNone(alike(left_of(LETTER_A, R, 2), denied(YES)))
        since = LETTER_A + YES + (("since", 0, 1),)
        self.assertIsNone(alike(left_of(since, R, 0), denied(YES)))
        self.assertIsNone(alike(left_of(since, R, 1), YES))
        # K says in R at 0 that b comes, but a is not there earlier.
        self.assertIsNone(alike(left_of(split(K), R, 0), denied(YES)))
        self.assertEqual(tree(left_of(put("and", since, until), R, 1)), tree(until))

    def test_letters_and_sinces_within_untils_are_not_settled(self):
        sheet = LETTER_A + LETTER_B + (("or", 0, 1), ("until", 0, 2), ("and", 0, 3))
        left = left_of(sheet, R, 0)
        self.assertIsNone(alike(left, sheet[:4]))
        self.assertEqual(letters_in(left), ["a", "b"])

    def test_many(self):
        given = [split(sheet) for sheet in splittable(215, 40, lines=12, letters=("a", "b", "c"))]
        for seed, sheet in enumerate(given + [split(sheet) for sheet in (WITHIN, mirrored_sheet(WITHIN))]):
            for row in rows(seed, 2, letters=("a", "b", "c")):
                for moment in (-7, -1, 0, 3, 11):
                    self.check(sheet, row, moment, self.joined(row, moment, seed))

    def test_the_greatest_ones(self):
        for sheet in (THREE, mirrored_sheet(THREE)):
            made = split(sheet)
            for row in rows(216, 4, letters=("a", "b", "c")):
                self.check(made, row, 2, self.joined(row, 2, 216))

    def test_rows_that_begin_far_away(self):
        for seed, sheet in enumerate((split(K), split(WITHIN), split(mirrored_sheet(WITHIN)))):
            for row in rows(217, 3, letters=("a", "b", "c")):
                for moment in (-2, 0, 4):
                    others = [shifted(other, FAR) for other in self.joined(row, moment, seed)]
                    self.check(sheet, shifted(row, FAR), moment + FAR, others)
                self.check(sheet, shifted(row, FAR), -FAR, [])
                self.check(sheet, shifted(row, -FAR), FAR, [])

    def test_rounds_on_which_a_since_never_began(self):
        since = LETTER_A + LETTER_B + (("since", 0, 1),)
        for left, found in (((B,), denied(YES)), ((A,), YES), ((B, A), YES), ((A, B), YES), ((A, NONE), denied(YES))):
            self.assertIsNone(alike(left_of(since, (0, left, (), (AB,)), 0), found), left)


if __name__ == "__main__":
    unittest.main()
