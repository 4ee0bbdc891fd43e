"""[S1.3] and the interface: shifted, mirrored_row, joined_rows and with_lot."""

import itertools
import random
import unittest

from splitsays.rows import (
    are_alike, check_row, joined_rows, lot_at, mirrored_row, nearest_unlike, one_form, shifted, with_lot,
)
from tests.plain import A, B, AB, C, FAR, LETTERS, NONE, R, a_lot, great_row, rows, told_longer

NEAR = list(range(-150, 151))
DISTANT = [FAR, FAR - 1, FAR - 5, -FAR, 1 - FAR, 7 - FAR, 10 ** 15, -10 ** 15, 12345, -12345]


class Made(unittest.TestCase):
    def lot_by_lot(self, made, lot_of, moments):
        """Check that a row that was made has at each moment the lot that lot_of tells, and is in one form."""
        self.assertIsNone(check_row(made))
        self.assertEqual([type(part) for part in made], [int, tuple, tuple, tuple])
        self.assertEqual(made, one_form(made))
        for moment in moments:
            self.assertEqual(lot_at(made, moment), lot_of(moment), moment)


class Shifted(Made):
    def check(self, row, by, around=0):
        made = shifted(row, by)
        moments = NEAR + DISTANT + [around + step for step in range(-60, 120)]
        self.lot_by_lot(made, lambda moment: lot_at(row, moment - by), moments)
        self.assertEqual(shifted(made, -by), one_form(row))
        return made

    def test_by_hand(self):
        self.assertEqual(shifted(R, 0), R)
        self.assertEqual(shifted(R, 3), (3,) + R[1:])
        self.assertEqual(shifted(R, -3), (-3,) + R[1:])
        self.assertEqual(shifted(R, FAR), (FAR,) + R[1:])
        # What comes round as a whole keeps its first at 0.
        self.assertEqual(shifted((0, (A, NONE), (), (A, NONE)), 1), (0, (NONE, A), (), (NONE, A)))
        self.assertEqual(shifted((0, (A, B, NONE), (), (A, B, NONE)), FAR), (0, (NONE, A, B), (), (NONE, A, B)))
        self.assertEqual(shifted((5, (A,), (A, NONE), (NONE, NONE)), 2), (8, (A,), (), (NONE,)))

    def test_near_and_far(self):
        for row, by in itertools.product(rows(31, 8) + [R], (0, 1, -1, 7, -12, 100)):
            self.check(row, by)
        for row, by in itertools.product(rows(32, 4) + [R], (FAR, -FAR, FAR - 3)):
            self.check(row, by, by)

    def test_at_the_limits(self):
        for first, by in itertools.product((0, FAR, -FAR), (5, FAR, -FAR)):
            self.check(great_row(33, first), by, first + by)


class Mirrored(Made):
    def check(self, row, around=0):
        made = mirrored_row(row)
        moments = NEAR + DISTANT + [around + step for step in range(-180, 181)]
        self.lot_by_lot(made, lambda moment: lot_at(row, -moment), moments)
        self.assertEqual(mirrored_row(made), one_form(row))
        return made

    def test_by_hand(self):
        self.assertEqual(mirrored_row(R), (-1, (NONE, B), (AB, A), (NONE,)))
        self.assertEqual(mirrored_row((0, (A,), (), (B,))), (1, (B,), (), (A,)))
        self.assertEqual(mirrored_row((3, (NONE,), (A,), (NONE,))), (-3, (NONE,), (A,), (NONE,)))
        self.assertEqual(mirrored_row((0, (A, B, C), (), (A, B, C))), (0, (A, C, B), (), (A, C, B)))

    def test_near_and_far(self):
        for row in rows(34, 60):
            self.check(row)
        for first in (FAR, -FAR, FAR - 4):
            for _, left, middle, right in rows(35, 8):
                self.check((first, left, middle, right), -first)

    def test_at_the_limits(self):
        for first, middle in itertools.product((0, -60, 60, FAR, -FAR), (0, 24, 100)):
            self.check(great_row(36, first, middle=middle), -first)


class Joined(Made):
    def check(self, one, other, moment):
        made = joined_rows(one, other, moment)
        self.lot_by_lot(made, lambda at: lot_at(one if at <= moment else other, at), NEAR + DISTANT)
        return made

    def test_by_hand(self):
        nothing = (0, (NONE,), (), (NONE,))
        always = (0, (A,), (), (A,))
        self.assertEqual(joined_rows(nothing, always, 3), (4, (NONE,), (), (A,)))
        self.assertEqual(joined_rows(always, nothing, -1), (0, (A,), (), (NONE,)))
        self.assertEqual(joined_rows(always, always, 5), always)
        self.assertEqual(joined_rows(R, nothing, 0), (0, (NONE,), (A,), (NONE,)))
        self.assertEqual(joined_rows(R, nothing, 4), (0, (NONE,), (A, AB, B, NONE, B), (NONE,)))
        self.assertEqual(joined_rows(nothing, R, 0), (1, (NONE,), (AB,), (B, NONE)))
        self.assertEqual(joined_rows(R, always, -1), (0, (NONE,), (), (A,)))
        self.assertEqual(joined_rows(R, (0, (B,), (), (B,)), -3), (-2, (NONE,), (), (B,)))

    def test_ahead_of_within_and_behind_the_middle(self):
        some = [(2, (A, NONE), (AB, B, C), (B, NONE, NONE)), (-3, (B,), (C, C, A, NONE, B), (A, AB)),
                (0, (NONE, B), (), (AB, C))]
        for one, other in itertools.product(some, some):
            for moment in range(-8, 9):
                self.check(one, other, moment)
            for moment in (-60, -59, -31, 31, 59, 60):
                self.check(one, other, moment)

    def test_with_itself(self):
        for row in rows(37, 20):
            for moment in (-60, -1, 0, 3, 60):
                self.assertEqual(self.check(row, row, moment), one_form(row))

    def test_many_pairs(self):
        chance = random.Random(38)
        some = rows(39, 40, first=60)
        for one, other in zip(some, some[1:]):
            self.check(one, other, chance.randint(-60, 60))

    def test_at_the_limits(self):
        for first, second, moment in itertools.product((-60, 60), (-60, 60), (-60, 0, 60)):
            self.check(great_row(40, first), great_row(41, second), moment)

    def test_at_the_moment_itself_stands_the_lot_of_the_first_one(self):
        one, other = (0, (A,), (), (A,)), (0, (B,), (), (B,))
        for moment in (-60, -2, 0, 2, 60):
            made = joined_rows(one, other, moment)
            self.assertEqual([lot_at(made, moment - 1), lot_at(made, moment), lot_at(made, moment + 1)], [A, A, B])


class WithLot(Made):
    def check(self, row, moment, lot):
        made = with_lot(row, moment, lot)
        self.lot_by_lot(made, lambda at: lot if at == moment else lot_at(row, at), NEAR + DISTANT)
        self.assertEqual(nearest_unlike(row, made), None if lot_at(row, moment) == lot else moment)
        self.assertEqual(with_lot(made, moment, lot_at(row, moment)), one_form(row))
        return made

    def test_by_hand(self):
        self.assertEqual(with_lot(R, 1, ()), (0, (NONE,), (A,), (NONE, B)))
        self.assertEqual(with_lot(R, -2, C), (-2, (NONE,), (C, NONE, A, AB), (B, NONE)))
        self.assertEqual(with_lot(R, 5, C), (0, (NONE,), (A, AB, B, NONE, B, C), (B, NONE)))
        self.assertEqual(with_lot((0, (A,), (), (A,)), 7, B), (7, (A,), (B,), (A,)))
        # The lot that was the only other one goes: then the row comes round as a whole.
        self.assertEqual(with_lot((7, (A,), (B,), (A,)), 7, A), (0, (A,), (), (A,)))
        self.assertEqual(with_lot((3, (A, B), (C,), (A, B)), 3, A), (4, (B, A), (), (A, B)))

    def test_the_lot_that_is_there(self):
        for row in rows(42, 20):
            for moment in (-60, -3, 0, 2, 60):
                self.assertEqual(self.check(row, moment, lot_at(row, moment)), one_form(row))

    def test_within_the_middle_and_out_in_the_rounds(self):
        row = (2, (A, NONE), (AB, B, NONE, B), (B, NONE, NONE))
        for moment, lot in itertools.product(range(-60, 61), (C, NONE, AB)):
            self.check(row, moment, lot)

    def test_many(self):
        chance = random.Random(43)
        for row in rows(44, 60, first=60):
            self.check(row, chance.randint(-60, 60), a_lot(chance, LETTERS))

    def test_at_the_limits(self):
        for first, moment in itertools.product((-60, 0, 60), (-60, -1, 0, 30, 60)):
            self.check(great_row(45, first), moment, LETTERS)


class PassedOn(Made):
    def test_what_these_functions_returned(self):
        for seed in range(3):
            one, other = great_row(seed, -60), great_row(seed + 10, 60)
            joined = joined_rows(other, one, 60)
            again = joined_rows(one, joined, -7)
            lots = with_lot(with_lot(again, 60, A), -60, NONE)
            expected = {60: A, -60: NONE}

            def lot_of(at):
                if at in expected:
                    return expected[at]
                return lot_at(one if at <= -7 or at > 60 else other, at)

            self.lot_by_lot(lots, lot_of, NEAR + DISTANT)
            mirrored = mirrored_row(lots)
            self.lot_by_lot(mirrored, lambda at: lot_of(-at), NEAR + DISTANT)
            far = shifted(mirrored, FAR)
            self.lot_by_lot(far, lambda at: lot_of(FAR - at), NEAR + DISTANT + [FAR + step for step in NEAR])
            self.assertEqual(mirrored_row(shifted(far, -FAR)), lots)
            self.assertIs(are_alike(shifted(far, FAR), shifted(mirrored, 2 * FAR)), True)
            self.assertEqual(nearest_unlike(shifted(far, 1 - FAR), shifted(with_lot(mirrored, 50, C), 1)), 51)

    def test_rows_told_otherwise_make_the_same(self):
        for row in rows(46, 20):
            for longer in told_longer(row):
                self.assertEqual(shifted(longer, 9), shifted(row, 9))
                self.assertEqual(mirrored_row(longer), mirrored_row(row))
                self.assertEqual(joined_rows(longer, R, 2), joined_rows(row, R, 2))
                self.assertEqual(joined_rows(R, longer, 2), joined_rows(R, row, 2))
                self.assertEqual(with_lot(longer, 1, C), with_lot(row, 1, C))


if __name__ == "__main__":
    unittest.main()
