"""[S1.2] and the interface: one_form, are_alike and nearest_unlike."""

import itertools
import unittest

from splitsays.rows import are_alike, check_row, lot_at, nearest_unlike, one_form
from tests.plain import A, B, AB, C, FAR, NONE, R, great_row, rows, told_longer, unrolled

# Each pair: a row, and the row in one form that is alike to it.
EXAMPLES = [
    (R, R),
    ((5, (A,), (A, NONE), (NONE, NONE)), (6, (A,), (), (NONE,))),
    ((6, (A,), (), (NONE,)), (6, (A,), (), (NONE,))),
    ((0, (A, B), (A,), (NONE,)), (1, (B, A), (), (NONE,))),
    ((1, (B, A), (), (NONE,)), (1, (B, A), (), (NONE,))),
    ((1, (A, NONE), (), (A, NONE)), (0, (NONE, A), (), (NONE, A))),
    ((0, (NONE, A), (), (NONE, A)), (0, (NONE, A), (), (NONE, A))),
]


def all_small_rows():
    """All rows of two lots with at most three of them in each part, and first near 0."""
    def lots(least, most):
        return [part for many in range(least, most + 1) for part in itertools.product((NONE, A), repeat=many)]

    return list(itertools.product((-2, -1, 0, 1), lots(1, 3), lots(0, 3), lots(1, 3)))


def period_of(lots):
    """The least number of moments after which all of a stretch comes again."""
    return next(apart for apart in itertools.count(1) if lots[apart:] == lots[:-apart])


def form_by_the_words(row):
    """The one form by the words of S1.2, read off a stretch that is long enough."""
    low, high = row[0] - 100, row[0] + len(row[2]) + 100
    lots = unrolled(row, low, high)
    if period_of(lots) <= 12:
        left = tuple(unrolled(row, 0, period_of(lots)))
        return (0, left, (), left)
    before, behind = period_of(lots[:60]), period_of(lots[-60:])
    start = next(at for at in range(before, len(lots)) if lots[at] != lots[at - before])
    end = next(at for at in range(start, len(lots)) if lots[at:-behind] == lots[at + behind:])
    parts = (lots[start - before:start], lots[start:end], lots[end:end + behind])
    return (low + start, *[tuple(part) for part in parts])


class OneForm(unittest.TestCase):
    def test_the_examples(self):
        for row, form in EXAMPLES:
            self.assertEqual(one_form(row), form)

    def test_more_by_hand(self):
        for row, form in [
            ((7, (NONE,), (), (NONE,)), (0, (NONE,), (), (NONE,))),
            ((3, (A, A), (A, A, A), (A,)), (0, (A,), (), (A,))),
            ((3, (A, B), (A, B, A), (B, A)), (0, (B, A), (), (B, A))),
            # The right round could begin ahead of first, where the left one still goes on.
            ((0, (NONE, A), (), (A,)), (0, (NONE, A), (), (A,))),
            ((0, (A, NONE), (A,), (NONE,)), (2, (A, NONE), (), (NONE,))),
            ((0, (NONE,), (NONE, A, NONE), (NONE,)), (1, (NONE,), (A,), (NONE,))),
            ((0, (NONE,), (A, B, AB, B), (AB, B)), (0, (NONE,), (A,), (B, AB))),
            ((0, (A, B, A, B), (A, B, A), (A, B, A, B)), (3, (B, A), (), (A, B))),
        ]:
            self.assertEqual(one_form(row), form)

    def test_rows_that_come_round_as_a_whole(self):
        for first in (-FAR, -5, 0, 1, 2, 3, FAR):
            # 10 ** 30 leaves 1 on division by 3.
            turn = {-FAR: 1, -5: 2, 0: 0, 1: 2, 2: 1, 3: 0, FAR: 2}[first]
            lots = (A, B, NONE)
            form = (0, lots[turn:] + lots[:turn], (), lots[turn:] + lots[:turn])
            self.assertEqual(one_form((first, lots, (), lots)), form)
            self.assertEqual(one_form((first, lots * 4, lots * 2, lots)), form)
            self.assertEqual(one_form((first, lots, (A,), (B, NONE, A))), form)

    def test_all_small_rows_against_the_words(self):
        for row in all_small_rows():
            form = one_form(row)
            self.assertEqual(form, form_by_the_words(row), row)

    def test_of_all_small_rows_that_are_alike_none_is_better(self):
        families = {}
        for row in all_small_rows():
            families.setdefault(tuple(unrolled(row, -20, 20)), []).append(row)
        for stretch, family in families.items():
            forms = {one_form(row) for row in family}
            self.assertEqual(len(forms), 1)
            first, left, middle, right = forms.pop()
            self.assertEqual(tuple(unrolled((first, left, middle, right), -20, 20)), stretch)
            if (left, middle, first) == (right, (), 0):
                continue
            best = min((len(row[1]), len(row[3]), -row[0], len(row[2])) for row in family)
            self.assertEqual(min(len(row[1]) for row in family), len(left))
            self.assertEqual(min(len(row[3]) for row in family), len(right))
            self.assertLessEqual((len(left), len(right), -first, len(middle)), best)

    def test_rows_of_all_sizes(self):
        for row in rows(11, 150) + rows(12, 60, left=12, middle=24, right=12, first=60):
            form = one_form(row)
            self.assertEqual(form, form_by_the_words(row))
            self.assertIsNone(check_row(form))
            self.assertEqual(one_form(form), form)
            self.assertEqual(unrolled(form, -200, 200), unrolled(row, -200, 200))
            for longer in told_longer(row):
                self.assertEqual(one_form(longer), form)

    def test_at_the_limits(self):
        for first in (FAR, -FAR):
            row = great_row(13, first)
            form = one_form(row)
            self.assertEqual(form[0], first + one_form(great_row(13, 0))[0])
            for moment in [first + step for step in range(-60, 100)] + [0, 1, -1, FAR, -FAR]:
                self.assertEqual(lot_at(form, moment), lot_at(row, moment))
            for longer in told_longer(row):
                self.assertEqual(one_form(longer), form)

    def test_what_is_returned_is_plain_and_the_same_again(self):
        for row, form in EXAMPLES:
            for _ in range(2):
                found = one_form(row)
                self.assertEqual([type(part) for part in found], [int, tuple, tuple, tuple])
                self.assertEqual(found, form)


class AreAlike(unittest.TestCase):
    def test_the_examples(self):
        for row, form in EXAMPLES:
            self.assertIs(are_alike(row, form), True)
            self.assertIs(are_alike(form, row), True)
        for (one, _), (other, _) in itertools.combinations(EXAMPLES[::2], 2):
            self.assertIs(are_alike(one, other), False)
            self.assertIs(are_alike(other, one), False)

    def test_the_same_row_told_otherwise(self):
        for row in rows(14, 60) + [great_row(15, first) for first in (0, FAR, -FAR)]:
            for longer in told_longer(row):
                self.assertIs(are_alike(row, longer), True)
                self.assertIs(are_alike(longer, row), True)

    def test_unlike_at_one_moment_alone(self):
        for at in (0, 1, -1, 30, -30, FAR, -FAR):
            one = (at, (NONE,), (A,), (NONE,))
            self.assertIs(are_alike(one, (0, (NONE,), (), (NONE,))), False)
            self.assertIs(are_alike(one, (at, (NONE,), (B,), (NONE,))), False)
            self.assertIs(are_alike(one, (at - 2, (NONE,), (NONE, NONE, A), (NONE,))), True)

    def test_many_pairs(self):
        some = rows(16, 40, left=2, middle=2, right=2, first=1, letters=("a",))
        for one, other in itertools.product(some, some):
            same = unrolled(one, -30, 30) == unrolled(other, -30, 30)
            self.assertIs(are_alike(one, other), same)

    def test_unlike_far_out_only(self):
        # Both have a at each even moment up to a far one; behind it only one goes on so.
        even = (0, (A, NONE), (), (A, NONE))
        self.assertIs(are_alike(even, (FAR, (A, NONE), (), (A, NONE))), True)
        self.assertIs(are_alike(even, (FAR + 1, (NONE, A), (), (NONE, NONE))), False)
        self.assertIs(are_alike(even, (-FAR, (NONE, NONE), (), (A, NONE))), False)


class NearestUnlike(unittest.TestCase):
    def nearest(self, one, other, moment):
        for _ in range(2):
            self.assertEqual(nearest_unlike(one, other), moment)
            self.assertEqual(nearest_unlike(other, one), moment)
        if moment is not None:
            self.assertIs(type(nearest_unlike(one, other)), int)
            self.assertNotEqual(lot_at(one, moment), lot_at(other, moment))

    def test_alike_rows(self):
        for row, form in EXAMPLES:
            self.nearest(row, form, None)
        for row in [great_row(17, 0), great_row(18, FAR), great_row(19, -FAR)] + rows(20, 20):
            for longer in told_longer(row):
                self.nearest(row, longer, None)

    def test_one_moment_alone_near_and_far(self):
        nothing = (4, (NONE,), (), (NONE,))
        for at in (0, 1, -1, 2, 17, -17, 1000, -1000, FAR, -FAR, FAR + 7, -FAR - 7):
            self.nearest((at, (NONE,), (A,), (NONE,)), nothing, at)
            even = (0, (A, NONE), (), (A, NONE))
            changed = (at, (A, NONE) if at % 2 == 0 else (NONE, A), (AB,), (NONE, A) if at % 2 == 0 else (A, NONE))
            self.nearest(even, changed, at)

    def test_of_two_as_near_the_later_one(self):
        nothing = (0, (NONE,), (), (NONE,))
        for at in (1, 2, 5, 12):
            lots = [NONE] * (2 * at + 1)
            lots[0] = lots[-1] = A
            self.nearest((-at, (NONE,), tuple(lots), (NONE,)), nothing, at)
            self.nearest((-at - 1, (NONE,), (A,) + tuple(lots), (NONE,)), nothing, at)
            self.nearest((-at, (NONE,), tuple(lots[:-1]) + (NONE, A), (NONE,)), nothing, -at)
            self.nearest((-at - 1, (NONE,), (A, NONE) + tuple(lots[1:]), (NONE,)), nothing, at)
        self.nearest((1 - FAR, (A,), (), (NONE,)), (FAR, (NONE,), (), (A,)), FAR)
        self.nearest((1 - FAR, (A,), (), (NONE,)), (FAR + 1, (NONE,), (), (A,)), -FAR)
        self.nearest((1 - FAR, (A,), (), (NONE,)), (FAR - 1, (NONE,), (), (A,)), FAR - 1)
        self.nearest((2, (NONE,), (), (A,)), (-1, (A,), (), (NONE,)), 2)

    def test_as_near_far_away(self):
        one = (FAR, (NONE,), (A,), (NONE,))
        other = (-FAR, (NONE,), (A,), (NONE,))
        self.nearest(one, other, FAR)
        self.nearest((FAR + 1, (NONE,), (A,), (NONE,)), other, -FAR)

    def test_at_0(self):
        self.nearest((0, (NONE,), (A,), (NONE,)), (0, (B,), (NONE,), (A,)), 0)
        self.nearest((0, (A,), (), (A,)), (0, (B,), (), (B,)), 0)

    def test_many_pairs(self):
        some = rows(21, 45, left=3, middle=3, right=3, first=4, letters=("a",))
        order = sorted(range(-60, 61), key=lambda moment: (abs(moment), -moment))
        stretches = [unrolled(row, -60, 61) for row in some]
        for (one, told), (other, heard) in itertools.product(zip(some, stretches), repeat=2):
            unlike = [moment for moment in order if told[moment + 60] != heard[moment + 60]]
            self.assertEqual(nearest_unlike(one, other), unlike[0] if unlike else None, (one, other))

    def test_rounds_that_fall_apart_late(self):
        # A round of 12 and one of 11 lots agree for long, but not for ever.
        twelve = (NONE,) * 11 + (A,)
        eleven = (NONE,) * 10 + (A,)
        for first, many in itertools.product((0, 3, 40, FAR), (0, 5, 24)):
            one = (first, (NONE,), (B,) * many, twelve)
            other = (first, (NONE,), (B,) * many, eleven)
            self.nearest(one, other, first + many + 10)
        for first, many in itertools.product((0, -3, -40, -FAR), (0, 5, 24)):
            one = (first, twelve[::-1], (B,) * many, (NONE,))
            other = (first, eleven[::-1], (B,) * many, (NONE,))
            self.nearest(one, other, first - 11)
        # At -1 both have a, and then the round of 11 lots alone at 10.
        self.nearest((-36, (NONE,), (), twelve), (-33, (NONE,), (), eleven), 10)

    def test_rounds_that_agree_as_long_as_can_be(self):
        # Rounds of 12 and of 11 lots that agree on 21 moments and not on the one behind them.
        eleven = (NONE,) * 10 + (A,)
        twelve = eleven + (NONE,)
        for first in (0, 1, 100, FAR):
            self.nearest((first, (B,), (), twelve), (first, (B,), (), eleven), first + 21)
            self.nearest((first, (B,), (C, AB), twelve), (first, (B,), (C, AB), eleven), first + 23)
            self.nearest((-first, twelve[::-1], (), (B,)), (-first, eleven[::-1], (), (B,)), -first - 22)
            self.assertIs(are_alike((first, (B,), (), twelve), (first, (B,), (), eleven)), False)

    def test_one_right_round_against_the_left_round_of_another(self):
        # Between the two firsts stand rounds of 12 and of 11 lots that are unlike only now and then.
        one = (-FAR, (NONE,), (), (A,) + (NONE,) * 11)
        other = (FAR, (A,) + (NONE,) * 11, (), (NONE,))
        shift = (2 * FAR) % 12
        self.assertNotEqual(shift, 0)
        order = sorted(range(-100, 101), key=lambda moment: (abs(moment), -moment))
        unlike = [moment for moment in order if lot_at(one, moment) != lot_at(other, moment)]
        self.nearest(one, other, unlike[0])
        same = (FAR, one[3][shift:] + one[3][:shift], (), (NONE,))
        self.assertEqual(lot_at(one, -FAR), lot_at(same, -FAR))
        far = [moment for moment in range(FAR, FAR + 30) if lot_at(one, moment) != lot_at(same, moment)]
        back = [moment for moment in range(-FAR - 30, -FAR) if lot_at(one, moment) != lot_at(same, moment)]
        self.nearest(one, same, min(far + back, key=lambda moment: (abs(moment), -moment)))

    def test_rows_at_the_limits(self):
        order = sorted(range(-300, 301), key=lambda moment: (abs(moment), -moment))
        for seed in range(5):
            one = great_row(seed, 60)
            changed = list(unrolled(one, -40, 160))
            changed[seed * 45] = ("q",)
            other = (-40, tuple(unrolled(one, -52, -40)), tuple(changed), tuple(unrolled(one, 160, 172)))
            self.nearest(one, other, seed * 45 - 40)
            third = great_row(seed + 50, -60)
            unlike = [moment for moment in order if lot_at(one, moment) != lot_at(third, moment)]
            self.nearest(one, third, unlike[0])


if __name__ == "__main__":
    unittest.main()
