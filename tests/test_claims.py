"""[S9.1], [S9.4], [0.2] and the interface: splitsays/claims.py."""

import random
import unittest

from splitsays.claims import breadth, check_claim, claim_truth, depth, free_names
from splitsays.errors import BadClaim, BadRow, SayError
from splitsays.rows import shifted
from tests.plain import FAR, NONE, R, STRANGE, a_row, nested, rows
from tests.plainclaims import a_claim, binding_parts, claims, depth_of, free_names_of, is_claim_true

MARK = ("mark", "a", "x")
FIRST = ("some", "x", ("and", ("before", "t", "x"), ("some", "y", ("and", ("before", "x", "y"), ("mark", "a", "y")))))
SECOND = ("some", "x", ("and", ("mark", "a", "t"), ("some", "t", ("mark", "b", "t"))))


class Judged(unittest.TestCase):
    def check(self, value, path):
        kept = repr(value)
        for _ in range(2):
            if path is None:
                self.assertIsNone(check_claim(value))
            else:
                with self.assertRaises(BadClaim) as caught:
                    check_claim(value)
                self.assertEqual(caught.exception.path, path, value)
                self.assertIsInstance(caught.exception, SayError)
        self.assertEqual(repr(value), kept)

    def test_claims(self):
        for claim in (MARK, FIRST, SECOND, ("same", "x", "x"), ("before", "x", "y"), ("not", MARK), ("or", MARK, MARK),
                      ("each", "x", MARK), ("some", "mark", ("mark", "some", "mark"))):
            self.check(claim, None)

    def test_the_example(self):
        self.check(("and", ("mark", "a", "x"), ("some", "x", ("not", 5))), (2, 2, 1))

    def test_values_of_all_kinds(self):
        for value in STRANGE + ["mark", 0, 5, (), ("marks", "a", "x"), (MARK,), list(MARK), ("mark", "a"),
                                ("mark", "a", "x", "y"), ("not",), ("not", MARK, MARK), ("and", MARK), ("some", "x"),
                                ("before", "x"), ("same", "x", "y", "z"), (True, MARK), (["not"], MARK),
                                (("not",), MARK), ({}, MARK), BadRow(()), ("some", "x", MARK, MARK), ("each", "x"),
                                ("or",)]:
            self.check(value, ())
            self.check(("not", value), (1,))
            self.check(("and", MARK, value), (2,))
            self.check(("some", "x", ("or", MARK, ("each", "y", value))), (2, 2, 2))

    def test_words(self):
        for wrong in ("", "A", "1a", "a b", "abcdefghijklm", 5, None, True, (), ["a"], ("a",), {}):
            for claim, path in ((("mark", wrong, "x"), (1,)), (("mark", "a", wrong), (2,)),
                                (("mark", wrong, wrong), (1,)),
                                (("before", wrong, "x"), (1,)), (("before", "x", wrong), (2,)),
                                (("same", wrong, 5), (1,)), (("same", "x", wrong), (2,)),
                                (("some", wrong, MARK), (1,)), (("each", wrong, 5), (1,))):
                self.check(claim, path)
                self.check(("or", ("not", claim), 7), (1, 1) + path)

    def test_names_that_are_bound_already(self):
        self.check(("some", "x", ("each", "x", MARK)), (2, 1))
        self.check(("some", "x", ("each", "y", ("not", ("some", "x", 5)))), (2, 2, 1, 1))
        self.check(("each", "x", ("and", MARK, ("some", "y", ("or", ("each", "y", MARK), 5)))), (2, 2, 2, 1, 1))
        # Bound in another part, or free outside: that is let.
        self.check(("and", ("some", "x", MARK), ("some", "x", MARK)), None)
        self.check(("and", MARK, ("each", "x", MARK)), None)
        self.check(("and", ("each", "x", MARK), MARK), None)
        self.check(SECOND, None)

    def test_the_first_wrong_part(self):
        self.check(("and", ("mark", "a", 5), ("mark", 5, "x")), (1, 2))
        self.check(("or", ("not", ("or", MARK, 1)), 2), (1, 1, 2))
        self.check(("some", "x", 5), (2,))
        self.check(("some", 5, 5), (1,))
        self.check(("mark", 5, 5), (1,))
        self.check(("or", 1, 2), (1,))
        self.check(("or", MARK, 2), (2,))

    def test_deep_values(self):
        self.check(nested_not(MARK, 39), None)
        self.check(nested_not(5, 39), (1,) * 39)
        self.check(nested((), 40, tuple), ())
        self.assertIsNone(check_claim(nested_not(MARK, 20000)))
        self.assertEqual(free_names(nested_not(MARK, 20000)), ["x"])


def nested_not(claim, many):
    for _ in range(many):
        claim = ("not", claim)
    return claim


class Told(unittest.TestCase):
    def test_free_names(self):
        for claim, names in ((MARK, ["x"]), (("before", "y", "x"), ["x", "y"]), (("same", "x", "x"), ["x"]),
                             (("not", MARK), ["x"]), (("and", ("mark", "b", "z"), ("before", "a", "z")), ["a", "z"]),
                             (("some", "x", MARK), []), (("each", "y", MARK), ["x"]), (FIRST, ["t"]), (SECOND, ["t"]),
                             (("or", MARK, ("some", "x", ("before", "x", "b1"))), ["b1", "x"])):
            self.assertEqual(free_names(claim), names)
            self.assertIs(type(free_names(claim)), list)
            free_names(claim).append("q")
            self.assertEqual(free_names(claim), names)

    def test_depth(self):
        for claim, told in ((MARK, 0), (("and", MARK, ("not", MARK)), 0), (("some", "x", MARK), 1), (FIRST, 2),
                            (SECOND, 2), (("or", ("some", "x", MARK), ("each", "y", MARK)), 1),
                            (("or", ("some", "x", MARK), ("not", FIRST)), 2), (("each", "u", ("not", FIRST)), 3)):
            self.assertEqual(depth(claim), told)

    def test_the_examples_of_breadths(self):
        self.assertEqual(breadth(FIRST), 1)
        self.assertEqual(breadth(SECOND), 2)

    def test_breadth_by_hand(self):
        free = ("and", ("mark", "a", "t"), ("before", "t", "u"))
        inner = ("some", "y", ("and", ("mark", "a", "x"), ("and", ("before", "x", "t"), ("mark", "b", "y"))))
        for claim, told in (
            (("some", "x", MARK), 0),
            (("some", "x", free), 2),
            (("some", "t", free), 0),
            (("some", "u", free), 1),
            # Equal ones count once, also in other parts; another letter or name counts again.
            (("each", "x", ("or", free, ("not", free))), 2),
            (("each", "x", ("or", free, ("mark", "b", "t"))), 3),
            (("each", "x", ("or", ("before", "t", "u"), ("before", "u", "t"))), 2),
            # In the inner some the mark of x and the comparison are free, not those of y.
            (("some", "x", inner), 4),
            (("some", "x", ("and", inner, inner)), 8),
            # What is within the inner one but free of it all counts by itself, too.
            (("some", "x", ("some", "y", ("mark", "a", "t"))), 1 + 2),
            (("some", "x", ("some", "y", ("some", "z", ("mark", "a", "x")))), 2),
            (("some", "x", ("some", "y", ("some", "z", ("mark", "a", "y")))), 1),
            (("some", "x", ("and", ("some", "y", MARK), ("each", "z", ("same", "z", "z")))), 2 + 1),
            # Free where it stands in the one part, and bound in the other one.
            (("some", "x", ("and", ("each", "t", ("mark", "a", "t")), ("mark", "a", "t"))), 1 + 1),
        ):
            self.assertEqual(breadth(claim), told, claim)

    def test_against_the_words(self):
        chance = random.Random(250)
        for _ in range(300):
            claim = a_claim(chance, ["t", "u"], [], chance.randint(0, 4), chance.randint(1, 24))
            self.assertIsNone(check_claim(claim))
            self.assertEqual(free_names(claim), sorted(free_names_of(claim)))
            self.assertEqual(depth(claim), depth_of(claim))
            for part in binding_parts(claim):
                self.assertEqual(breadth(part), self.plain_breadth(part))

    def plain_breadth(self, claim):
        own, within = self.free_there(claim)
        return len(own) + sum(2 ** len(self.free_there(part)[0]) for part in within)

    def free_there(self, claim):
        """The marks and comparisons with all names free in a claim, and the next claims with some or each in it."""
        own, within = set(), []

        def look(told, bound, is_within):
            if told[0] in ("some", "each"):
                if not is_within:
                    within.append(told)
                look(told[2], bound | {told[1]}, True)
            elif told[0] in ("mark", "before", "same"):
                if not bound & set(told[2:] if told[0] == "mark" else told[1:]):
                    own.add(told)
            else:
                for member in told[1:]:
                    look(member, bound, is_within)

        look(claim[2], {claim[1]}, False)
        return own, within


class True_(unittest.TestCase):
    def check(self, claim, row, moment, told):
        for _ in range(2):
            self.assertIs(claim_truth(claim, row, moment), told)

    def test_by_hand(self):
        for moment, told in ((-1, False), (0, True), (1, True), (2, False)):
            self.check(("mark", "a", "t"), R, moment, told)
        self.check(("before", "t", "t"), R, 0, False)
        self.check(("same", "t", "t"), R, 0, True)
        # With no free name it is the same at each moment.
        for moment in (-FAR, 0, 1, FAR):
            self.check(("some", "x", ("mark", "a", "x")), R, moment, True)
            self.check(("each", "x", ("mark", "a", "x")), R, moment, False)
            self.check(("some", "x", ("before", "x", "x")), R, moment, False)
            self.check(("each", "x", ("same", "x", "x")), R, moment, True)
            # No first moment, and no last one.
            self.check(("each", "x", ("some", "y", ("before", "y", "x"))), R, moment, True)
            self.check(("some", "x", ("each", "y", ("not", ("before", "x", "y")))), R, moment, False)

    def test_far_away(self):
        later = ("some", "x", ("and", ("before", "t", "x"), ("mark", "a", "x")))
        row = shifted(R, FAR)
        for moment, told in ((-FAR, True), (0, True), (FAR, True), (FAR + 1, False), (FAR * 3, False)):
            self.check(later, row, moment, told)
        # A moment at which a holds is far away from t, and from the middle.
        lonely = (-FAR, (NONE,), (("a",),), (NONE, NONE, ("b",)))
        self.check(("some", "x", ("and", ("before", "x", "t"), ("mark", "a", "x"))), lonely, FAR, True)
        self.check(later, lonely, FAR, False)
        self.check(("some", "x", ("and", ("before", "t", "x"), ("and", ("mark", "b", "x"), ("each", "y", (
            "or", ("not", ("and", ("before", "t", "y"), ("before", "y", "x"))), ("not", ("mark", "b", "y")))))
        )), lonely, FAR, True)
        between = ("some", "x", ("some", "y", ("and", ("before", "x", "y"), ("before", "y", "t"))))
        self.check(between, lonely, -FAR, True)

    def test_how_many_moments_apart(self):
        # The next b is the second moment later than t: none between but one.
        claim = ("some", "x", ("and", ("mark", "b", "x"), ("some", "y", ("and", ("and", ("before", "t", "y"), (
            "before", "y", "x")), ("not", ("mark", "b", "y"))))))
        for moment, told in ((-1, True), (0, True), (1, True), (2, True), (FAR, True)):
            self.check(claim, R, moment, told)
        every = ("each", "x", ("or", ("not", ("before", "t", "x")), ("mark", "a", "x")))
        row = (0, (NONE,), (), (("a",), ("a",), ("a",), ("a",)))
        self.check(every, row, -1, True)
        self.check(every, row, -2, False)
        self.check(every, row, FAR, True)

    def test_against_the_words(self):
        chance = random.Random(251)
        found = {}
        for claim in claims(252, 150, breadth, size=14):
            row = a_row(chance, left=2, middle=2, right=2, first=2)
            for moment in (-1, 1, 3):
                # Sixteen moments to both sides are more than 2 ** 2 rounds away from all that is given.
                told = is_claim_true(claim, row, {"t": moment}, -16, 20, 8)
                self.assertIs(claim_truth(claim, row, moment), told, (claim, row, moment))
                found[depth(claim), told] = True
        self.assertLessEqual({(0, True), (1, True), (2, True), (1, False), (2, False)}, set(found))

    def test_the_greatest_rounds(self):
        chance = random.Random(253)
        for claim in claims(254, 12, breadth, size=16, letters=("a", "b", "c", "d")):
            row = a_row(chance, left=4, middle=6, right=4, letters=("a", "b", "c", "d"))
            for moment in (0, 7):
                told = is_claim_true(claim, row, {"t": moment}, -28, 40, 16)
                self.assertIs(claim_truth(claim, row, moment), told)
                far = shifted(row, FAR)
                self.assertIs(claim_truth(claim, far, FAR + moment), told)

    def test_names_that_are_free_and_bound(self):
        # a holds at t, and b holds at another moment, which is called t as well.
        for moment, told in ((0, True), (1, True), (2, False)):
            self.check(SECOND, R, moment, told)
        both = ("and", ("mark", "a", "x"), ("some", "x", ("not", ("mark", "a", "x"))))
        self.check(both, R, 0, True)
        self.check(both, R, 5, False)

    def test_nothing_is_changed(self):
        for row in rows(255, 3):
            kept = repr((FIRST, row))
            claim_truth(FIRST, row, 0)
            self.assertEqual(repr((FIRST, row)), kept)


if __name__ == "__main__":
    unittest.main()
