"""[S1.1] and the interface: lot_at, holds and letters_of."""

import unittest

from splitsays.rows import holds, letters_of, lot_at
from tests.plain import A, B, AB, C, D, FAR, LETTERS, NONE, R, great_row, rows, unrolled


class LotAt(unittest.TestCase):
    def check(self, row, start, lots):
        found = [lot_at(row, moment) for moment in range(start, start + len(lots))]
        self.assertEqual(found, list(lots))
        for lot in found:
            self.assertIs(type(lot), tuple)

    def test_the_row_of_the_document(self):
        self.check(R, -4, [NONE] * 4 + [A, AB, B, NONE, B, NONE, B, NONE])
        for moment in range(2, 40):
            self.assertEqual(lot_at(R, moment), B if moment in range(2, 40, 2) else NONE)

    def test_rounds_of_several_lots(self):
        row = (10, (A, B, C), (D, NONE), (NONE, A, AB))
        self.check(row, 3, [C, A, B, C, A, B, C, D, NONE, NONE, A, AB, NONE, A, AB, NONE])

    def test_the_last_member_of_left_stands_ahead_of_first(self):
        for first in (-7, -1, 0, 1, 12, FAR, -FAR):
            self.check((first, (A, B, C), (D,), (NONE,)), first - 4, [C, A, B, C, D, NONE, NONE])

    def test_an_empty_middle(self):
        for first in (-3, 0, 5):
            self.check((first, (A, B), (), (C, D)), first - 3, [B, A, B, C, D, C, D])
            self.check((first, (A,), (), (B,)), first - 2, [A, A, B, B])

    def test_far_away(self):
        row = (0, (A, B, C), (D,), (NONE, A, B, C))
        # 10 ** 30 leaves 1 on division by 3, and 0 on division by 4.
        self.check(row, FAR + 1, [NONE, A, B, C, NONE])
        self.check(row, -FAR - 1, [B, C, A, B])
        self.check((FAR, (A, B, C), (D,), (NONE, A, B, C)), -FAR, [B, C, A, B])
        self.check((-FAR, (A, B, C), (D,), (NONE, A, B, C)), FAR, [C, NONE, A, B])
        self.check((FAR, (A, B), (C,), (D, NONE)), FAR - 3, [B, A, B, C, D, NONE, D])
        self.check((-FAR, (A, B), (C,), (D, NONE)), -FAR - 3, [B, A, B, C, D, NONE, D])

    def test_rows_of_all_sizes(self):
        for row in rows(2, 60) + [great_row(3, first) for first in (-60, 0, 7)] + [great_row(4, 0, middle=100)]:
            self.check(row, -150, unrolled(row, -150, 250))

    def test_at_the_limits(self):
        near = great_row(5, 0)
        for by in (FAR - 40, -FAR + 40):
            row = (by,) + near[1:]
            self.check(row, by - 50, unrolled(near, -50, 100))


class Holds(unittest.TestCase):
    def test_the_row_of_the_document(self):
        for moment in range(-20, 60):
            self.assertIs(holds(R, "a", moment), moment in (0, 1))
            self.assertIs(holds(R, "b", moment), moment == 1 or moment in range(2, 60, 2))
            self.assertIs(holds(R, "c", moment), False)
        self.assertIs(holds(R, "b", FAR), True)
        self.assertIs(holds(R, "b", FAR + 1), False)
        self.assertIs(holds(R, "b", -FAR), False)

    def test_a_letter_is_not_a_part_of_another(self):
        row = (0, (("lamp",),), (), (("lamp", "lamp2"),))
        self.assertIs(holds(row, "lam", 0), False)
        self.assertIs(holds(row, "lamp2", -1), False)
        self.assertIs(holds(row, "lamp2", 0), True)

    def test_each_letter_of_rows_of_all_sizes(self):
        for row in [great_row(6, -3)] + rows(7, 20):
            for moment, lot in enumerate(unrolled(row, -60, 60), -60):
                for letter in LETTERS:
                    self.assertIs(holds(row, letter, moment), letter in lot)


class LettersOf(unittest.TestCase):
    def test_letters(self):
        self.assertEqual(letters_of(R), ["a", "b"])
        self.assertEqual(letters_of((0, ((),), (), ((),))), [])
        self.assertEqual(letters_of((0, (("z",),), (("b",),), (("a", "m"),))), ["a", "b", "m", "z"])
        self.assertEqual(letters_of((0, (("a10",),), (("a2",), ("a",)), (("a10", "a2"),))), ["a", "a10", "a2"])
        self.assertEqual(letters_of(great_row(8, FAR)), sorted(LETTERS))

    def test_each_part_counts(self):
        self.assertEqual(letters_of((0, (NONE, A), (), (NONE,))), ["a"])
        self.assertEqual(letters_of((0, (NONE,), (NONE, A), (NONE,))), ["a"])
        self.assertEqual(letters_of((0, (NONE,), (), (NONE, A))), ["a"])

    def test_a_new_list_each_time(self):
        one, other = letters_of(R), letters_of(R)
        self.assertIsNot(one, other)
        one.append("c")
        self.assertEqual(letters_of(R), ["a", "b"])
        self.assertIs(type(other), list)


if __name__ == "__main__":
    unittest.main()
