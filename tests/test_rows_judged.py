"""[S1.1], [S1.7] and the interface: is_lot and check_row."""

import copy
import unittest

from splitsays.errors import BadRow, BadText
from splitsays.rows import check_row, is_lot
from tests.plain import A, B, AB, FAR, LETTERS, NONE, R, STRANGE, great_row, nested, rows

GOOD = ((),)


class Lots(unittest.TestCase):
    def test_lots(self):
        for value in ((), A, B, AB, ("a", "aa", "ab", "b"), ("a0", "a1", "a10", "a2"), ("row", "z"), LETTERS,
                      ("abcdefghijkl",), ("a", "a0", "aa")):
            self.assertIs(is_lot(value), True, value)

    def test_letters_ascend_by_their_codes(self):
        self.assertIs(is_lot(("a2", "a10")), False)
        self.assertIs(is_lot(("a10", "a2")), True)
        self.assertIs(is_lot(("aa", "a0")), False)
        self.assertIs(is_lot(("ab", "a")), False)

    def test_letters_twice_or_not_ascending(self):
        for value in (("a", "a"), ("b", "a"), ("a", "b", "b"), ("a", "c", "b"), ("a", "b", "a"), ("a", "a", "b")):
            self.assertIs(is_lot(value), False, value)

    def test_members_that_are_no_words(self):
        for member in STRANGE + ["", "A", "1", "a b", "abcdefghijklm", 0, 5, ("a",)]:
            for value in ((member,), ("a", member), (member, "z"), ("a", member, "z")):
                self.assertIs(is_lot(value), False, value)

    def test_lists_and_other_values(self):
        for value in STRANGE + [["a"], ["a", "b"], "a", "ab", "", 0, 3, {"a": True}, BadText("a")]:
            self.assertIs(is_lot(value), False)

    def test_many_letters(self):
        value = tuple(sorted(f"n{number}" for number in range(2000)))
        self.assertIs(is_lot(value), True)
        self.assertIs(is_lot(value + ("n1",)), False)


class Rows(unittest.TestCase):
    def check(self, value, path):
        kept = copy.deepcopy(value)
        for _ in range(2):
            with self.assertRaises(BadRow) as caught:
                check_row(value)
            self.assertEqual(caught.exception.path, path)
            self.assertIs(type(caught.exception.path), tuple)
            self.assertIs(type(caught.exception), BadRow)
        self.assertEqual(value, kept)

    def test_rows(self):
        for value in [R, (0, GOOD, (), GOOD), (-FAR, GOOD, (), GOOD), (FAR, (A, B), (NONE,), (AB,)),
                      (10 ** 40, GOOD, (A,) * 1000, GOOD), great_row(1, 5)] + rows(1, 50):
            self.assertIsNone(check_row(value))

    def test_no_tuple_with_four_members(self):
        for value in STRANGE + [(), "", "abcd", 5, (0,), (0, GOOD), (0, GOOD, ()), (0, GOOD, (), GOOD, ()),
                                [0, GOOD, (), GOOD], list(R), {0: 1, 1: 2, 2: 3, 3: 4}, [1, 2, 3, 4]]:
            self.check(value, ())

    def test_an_error_is_no_row(self):
        with self.assertRaises(BadRow) as caught:
            check_row(BadRow(R))
        self.assertEqual(caught.exception.path, ())

    def test_first(self):
        for first in STRANGE + ["", "0", "a", (), (0,), A]:
            self.check((first, GOOD, (), GOOD), (0,))

    def test_no_tuple_of_lots(self):
        for lots in [None, True, 0, 7, "", "a", [], [()], list(GOOD), [A], {}, {0: ()}, nested((), 40, list)]:
            self.check((0, lots, (), GOOD), (1,))
            self.check((0, GOOD, lots, GOOD), (2,))
            self.check((0, GOOD, (), lots), (3,))

    def test_no_members(self):
        self.check((0, (), (), GOOD), (1,))
        self.check((0, GOOD, (), ()), (3,))
        self.check((0, (), (), ()), (1,))
        self.assertIsNone(check_row((0, GOOD, (), GOOD)))

    def test_members_that_are_no_lots(self):
        for lot in [None, True, 0, "", "a", [], ["a"], {}, (1,), ("a", "a"), ("b", "a"), ("A",), ("",), ((),),
                    ("abcdefghijklm",), (True,), nested((), 40, tuple)]:
            self.check((0, (lot,), (), GOOD), (1, 0))
            self.check((0, (A, lot, A), (), GOOD), (1, 1))
            self.check((0, GOOD, (lot,), GOOD), (2, 0))
            self.check((0, GOOD, (A, NONE, AB, lot), GOOD), (2, 3))
            self.check((0, GOOD, (), (lot,)), (3, 0))
            self.check((0, GOOD, (), (NONE, B, lot, B)), (3, 2))

    def test_the_sequence_of_wrong_parts(self):
        self.check([None, None], ())
        self.check((None, None, None), ())
        self.check((None, None, None, None), (0,))
        self.check(("0", (), [], ()), (0,))
        self.check((True, (5,), (), ()), (0,))
        self.check((0, None, None, None), (1,))
        self.check((0, (A, 5), None, ()), (1, 1))
        self.check((0, (5, 6), (7,), (8,)), (1, 0))
        self.check((0, GOOD, None, ()), (2,))
        self.check((0, GOOD, (A, 5, 6), ()), (2, 1))
        self.check((0, GOOD, (5,), None), (2, 0))
        self.check((0, GOOD, (A,), ()), (3,))
        self.check((0, GOOD, (A,), (A, [], 5)), (3, 1))

    def test_lists_in_the_place_of_tuples(self):
        first, left, middle, right = R
        self.check([first, left, middle, right], ())
        self.check((first, list(left), middle, right), (1,))
        self.check((first, left, list(middle), right), (2,))
        self.check((first, left, middle, list(right)), (3,))
        self.check((first, left, (["a"], AB), right), (2, 0))
        self.check((first, left, middle, (B, [])), (3, 1))


if __name__ == "__main__":
    unittest.main()
