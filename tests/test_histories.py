"""[S8.1], [S8.2], [0.2] and the interface: splitsays/histories.py."""

import itertools
import random
import unittest

from splitsays.histories import like_states, next_state, says, state_after, state_behind, states_come_to, told_apart
from splitsays.kinds import is_past
from splitsays.sheets import denied, needed, put
from splitsays.splitting import split
from splitsays.truths import truths
from tests.plain import A, AB, B, C, NONE, a_lot
from tests.plainsheets import LETTER_A, LETTER_B, LOOSE, YES, Truths

SINCE = LETTER_A + LETTER_B + (("since", 0, 1),)
# a held at the moment before, and at the one before that.
TWICE = LETTER_A + YES + (("not", 1), ("since", 0, 2), ("since", 3, 2), ("and", 3, 4))
# a held at some moment, and b has held since then all along, or b held at none.
LONG = LETTER_A + LETTER_B + YES + (("since", 0, 1), ("since", 1, 2), ("not", 4), ("or", 3, 5))
ALL_LOTS = [NONE, A, B, AB]


def sinces(sheet):
    return [number for number in needed(sheet) if sheet[number][0] == "since"]


def plain_state(sheet, left, lots):
    """The state right after a left round that goes on for ever and these lots, by the words of S2.2."""
    truths_there = Truths(sheet, (0, left, tuple(lots), (NONE,)))
    return tuple(truths_there.at(number, len(lots)) for number in sinces(sheet))


def plain_says(sheet, left, lots):
    return Truths(sheet, (0, left, tuple(lots), (NONE,))).at(len(sheet) - 1, len(lots))


def a_past(chance, many, letters=("a", "b"), extra=True):
    """A sheet of the past of so many since lines; with lines that are not needed, perhaps."""
    lines = [("letter", letter) for letter in letters] + [("yes",)]
    own = []
    for _ in range(many):
        numbers = [chance.randrange(len(lines)) for _ in range(2)]
        if chance.random() < 0.5:
            lines.append(("not", numbers[0]))
            numbers[0] = len(lines) - 1
        if extra and chance.random() < 0.2:
            lines.append(("until", 0, len(lines) - 1))
            numbers = [number if lines[number][0] != "until" else 0 for number in numbers]
        lines.append(("since", numbers[0], numbers[1]))
        own.append(len(lines) - 1)
    last = own[0]
    for number in own[1:]:
        lines.append((chance.choice(("and", "or")), last, number))
        last = len(lines) - 1
        if chance.random() < 0.3:
            lines.append(("not", last))
            last = len(lines) - 1
    return tuple(lines[:last + 1])


def pasts(seed, count, many, **limits):
    chance = random.Random(seed)
    found = []
    while len(found) < count:
        sheet = a_past(chance, chance.randint(1, many), **limits)
        if is_past(sheet):
            found.append(sheet)
    return found


class States(unittest.TestCase):
    def test_by_hand(self):
        self.assertEqual(state_behind(SINCE, (NONE,)), (False,))
        # It never began on a round of b alone, and it must have on one with a.
        self.assertEqual(state_behind(SINCE, (B,)), (False,))
        self.assertEqual(state_behind(SINCE, (A,)), (True,))
        self.assertEqual(state_behind(SINCE, (B, A)), (True,))
        self.assertEqual(state_behind(SINCE, (A, B, B)), (True,))
        self.assertEqual(state_behind(SINCE, (A, NONE)), (False,))
        self.assertEqual(next_state(SINCE, (False,), A), (True,))
        self.assertEqual(next_state(SINCE, (False,), B), (False,))
        self.assertEqual(next_state(SINCE, (True,), B), (True,))
        self.assertEqual(next_state(SINCE, (True,), ("b", "z")), (True,))
        self.assertEqual(next_state(SINCE, (True,), C), (False,))
        self.assertEqual(state_after(SINCE, (False,), (A, B, B)), (True,))
        self.assertEqual(state_after(SINCE, (True,), ()), (True,))
        self.assertIs(says(SINCE, (True,)), True)
        self.assertIs(says(denied(SINCE), (True,)), False)

    def test_since_lines_by_their_numbers(self):
        self.assertEqual(state_behind(LONG, (A, B)), (True, True))
        self.assertEqual(state_behind(LONG, (A,)), (True, False))
        self.assertEqual(state_behind(LONG, (B,)), (False, True))
        self.assertIs(says(LONG, (False, False)), True)
        self.assertIs(says(LONG, (False, True)), False)
        # States that no history has: each one is taken as it is.
        self.assertEqual(next_state(TWICE, (False, True), NONE), (False, False))
        denying = LETTER_A + YES + (("since", 0, 1), ("not", 2), ("since", 3, 1))
        self.assertEqual(next_state(denying, (True, False), NONE), (True, False))

    def test_lines_that_are_built_alike_count_each(self):
        sheet = SINCE + (("since", 0, 1), ("and", 2, 3))
        self.assertEqual(state_behind(sheet, (A,)), (True, True))
        self.assertEqual(next_state(sheet, (True, False), B), (True, False))
        self.assertIs(says(sheet, (True, False)), False)

    def test_sheets_that_rest_on_nothing(self):
        for sheet, told in ((YES, True), (denied(YES), False), (LETTER_A + YES, True)):
            self.assertEqual(state_behind(sheet, (A, B)), ())
            self.assertEqual(next_state(sheet, (), A), ())
            self.assertEqual(state_after(sheet, (), (A, B)), ())
            self.assertIs(says(sheet, ()), told)

    def test_against_the_words(self):
        chance = random.Random(220)
        for sheet in pasts(221, 120, 8) + [LONG, TWICE]:
            left = tuple(a_lot(chance, ("a", "b")) for _ in range(chance.randint(1, 4)))
            lots = tuple(a_lot(chance, ("a", "b", "c")) for _ in range(chance.randint(0, 5)))
            state = state_behind(sheet, left)
            self.assertEqual(state, plain_state(sheet, left, ()), (sheet, left))
            self.assertEqual(state, tuple(truths(sheet, (0, left, (), (A,)), 0)[number] for number in sinces(sheet)))
            self.assertEqual(state_after(sheet, state, left), state)
            behind = state_after(sheet, state, lots)
            self.assertEqual(behind, plain_state(sheet, left, lots), (sheet, left, lots))
            for lot in lots:
                state = next_state(sheet, state, lot)
            self.assertEqual(state, behind)
            self.assertIs(says(sheet, state), plain_says(sheet, left, lots))
            for member in state:
                self.assertIs(type(member), bool)

    def test_states_that_no_history_has(self):
        # The next state hangs on the state and the lot alone, by S3.2.
        chance = random.Random(222)
        for sheet in pasts(223, 40, 5, extra=False):
            for _ in range(6):
                state = tuple(chance.random() < 0.5 for _ in sinces(sheet))
                lot = a_lot(chance, ("a", "b"))
                known = dict(zip(sinces(sheet), state))
                for number, line in enumerate(sheet):
                    if number not in known:
                        known[number] = self.mixed(line, known, lot)
                told = tuple(known[sheet[at][1]] or (known[sheet[at][2]] and known[at]) for at in sinces(sheet))
                self.assertEqual(next_state(sheet, state, lot), told)
                self.assertIs(says(sheet, state), known[len(sheet) - 1])

    def mixed(self, line, known, lot):
        if line[0] == "letter":
            return line[1] in lot
        truths_there = [known[member] for member in line[1:]]
        return {"yes": all, "and": all, "or": any, "not": lambda told: not told[0]}[line[0]](truths_there)

    def test_great_sheets_and_long_rounds(self):
        chance = random.Random(224)
        lines = [("letter", letter) for letter in ("a", "b", "c", "d")]
        while len(lines) < 59:
            last = len(lines) - 1
            word = "since" if len(lines) % 7 == 0 else chance.choice(("and", "or", "not"))
            lines.append((word, last) if word == "not" else (word, last, chance.randrange(last)))
        lines.append(("since", 58, 57))
        sheet = tuple(lines)
        left = tuple(a_lot(chance, ("a", "b", "c", "d")) for _ in range(12))
        state = state_behind(sheet, left)
        self.assertEqual(len(state), len(sinces(sheet)))
        self.assertEqual(state_after(sheet, state, left), state)
        self.assertEqual(state, plain_state(sheet, left, ()))

    def test_what_split_returned(self):
        sheet = split(put("and", SINCE, LETTER_A + YES + (("until", 0, 1), ("since", 2, 1))))
        past = [number for number in needed(sheet) if sheet[number][0] == "since"]
        self.assertTrue(past)
        self.assertEqual(state_behind(sheet[:past[-1] + 1], (A, B)), plain_state(sheet[:past[-1] + 1], (A, B), ()))


class ComeTo(unittest.TestCase):
    def test_by_hand(self):
        self.assertEqual(states_come_to(SINCE, ALL_LOTS), [(False,), (True,)])
        self.assertEqual(states_come_to(SINCE, [B]), [(False,)])
        self.assertEqual(states_come_to(SINCE, [A]), [(False,), (True,)])
        self.assertEqual(states_come_to(TWICE, ALL_LOTS), [(False, False), (False, True), (True, False), (True, True)])
        self.assertEqual(states_come_to(TWICE, [A]), [(False, False), (True, False), (True, True)])
        self.assertEqual(states_come_to(YES, [A]), [()])
        # The state behind the round with the lot () stands there, whatever the lots are.
        denying = LETTER_A + YES + (("not", 0), ("since", 2, 1))
        self.assertEqual(states_come_to(denying, [A]), [(True,)])

    def test_against_the_words(self):
        chance = random.Random(225)
        for sheet in pasts(226, 60, 5):
            lots = chance.sample(ALL_LOTS, chance.randint(1, 4))
            told = states_come_to(sheet, lots)
            self.assertIs(type(told), list)
            self.assertEqual(told, sorted(set(told)))
            known, level = set(), {plain_state(sheet, (NONE,), ())}
            while level - known:
                known |= level
                level = {next_state(sheet, state, lot) for state in level for lot in lots}
            self.assertEqual(told, sorted(known))
            self.assertEqual(states_come_to(sheet, tuple(lots)), told)

    def test_lists_are_new_each_time(self):
        for made in (states_come_to, like_states):
            one = made(SINCE, ALL_LOTS)
            one.clear()
            self.assertEqual(len(made(SINCE, ALL_LOTS)), 2)


class Like(unittest.TestCase):
    def words_up_to(self, lots, many):
        return [word for length in range(many + 1) for word in itertools.product(lots, repeat=length)]

    def plainly_apart(self, sheet, lots, one, other, many=6):
        """The first one of the shortest tuples of at most so many lots that tell two states apart."""
        for word in self.words_up_to(lots, many):
            if says(sheet, state_after(sheet, one, word)) != says(sheet, state_after(sheet, other, word)):
                return word
        return None

    def test_by_hand(self):
        self.assertEqual(like_states(TWICE, ALL_LOTS),
                         [((False, False), (False, True)), ((True, False),), ((True, True),)])
        self.assertEqual(like_states(SINCE, [A, B]), [((False,),), ((True,),)])
        self.assertEqual(like_states(denied(TWICE), [A]), [((False, False),), ((True, False),), ((True, True),)])
        self.assertEqual(like_states(YES, [A]), [((),)])
        # With these lots none is ever told from the other one.
        self.assertEqual(like_states(LETTER_A + LETTER_B + (("since", 0, 1), ("not", 2), ("or", 2, 3)), [A, B]),
                         [((False,), (True,))])

    def test_told_apart_by_hand(self):
        for one, other, lots, told in (
            ((False,), (True,), ALL_LOTS, ()), ((True,), (True,), ALL_LOTS, None),
        ):
            self.assertEqual(told_apart(SINCE, lots, one, other), told)
        self.assertEqual(told_apart(TWICE, ALL_LOTS, (False, False), (True, False)), (A,))
        self.assertEqual(told_apart(TWICE, [NONE, AB, A], (False, False), (True, False)), (AB,))
        self.assertEqual(told_apart(TWICE, [NONE], (False, False), (True, False)), None)
        self.assertEqual(told_apart(TWICE, ALL_LOTS, (False, True), (True, True)), ())
        self.assertEqual(told_apart(TWICE, ALL_LOTS, (False, True), (False, False)), None)
        self.assertIsNone(told_apart(YES, [A], (), ()))

    def test_against_the_words(self):
        chance = random.Random(227)
        found = {}
        for sheet in pasts(228, 50, 3):
            lots = chance.sample(ALL_LOTS, chance.randint(1, 3))
            come_to = states_come_to(sheet, lots)
            everything = list(itertools.product((False, True), repeat=len(sinces(sheet))))
            for one, other in itertools.combinations(everything, 2):
                told = told_apart(sheet, lots, one, other)
                self.assertEqual(told, self.plainly_apart(sheet, lots, one, other), (sheet, lots, one, other))
                self.assertEqual(told_apart(sheet, tuple(lots), other, one), told)
                found[told and len(told)] = True
            groups = like_states(sheet, lots)
            self.assertEqual(sorted(state for group in groups for state in group), come_to)
            self.assertEqual([group[0] for group in groups], sorted(group[0] for group in groups))
            for group in groups:
                self.assertIs(type(group), tuple)
                self.assertEqual(list(group), sorted(group))
            for one, other in itertools.combinations(come_to, 2):
                together = any(one in group and other in group for group in groups)
                self.assertIs(told_apart(sheet, lots, one, other) is None, together)
            self.assertEqual(like_states(sheet, tuple(lots)), groups)
        self.assertLessEqual({None, (), 1}, set(found))

    def test_five_since_lines_and_four_lots(self):
        # A row of five moments: a held five moments ago.
        sheet = LETTER_A + YES + (("not", 1),)
        for _ in range(5):
            sheet += (("since", 0 if len(sheet) == 3 else len(sheet) - 1, 2),)
        self.assertEqual(len(states_come_to(sheet, ALL_LOTS)), 32)
        self.assertEqual([len(group) for group in like_states(sheet, ALL_LOTS)], [1] * 32)
        self.assertEqual(told_apart(sheet, ALL_LOTS, (False,) * 5, (True,) + (False,) * 4), (NONE,) * 4)
        self.assertEqual(told_apart(sheet, [B, A, NONE], (True, False) * 2 + (False,), (False,) * 5), (B, B))
        newest = sheet[:3] + tuple(sheet[3:]) + (("or", 3, 7), ("not", 8), ("or", 3, 9))
        self.assertEqual(len(like_states(newest, ALL_LOTS)), len(self.classes(newest)))

    def classes(self, sheet):
        """The states come to, by what the sheet says after all tuples of at most five lots."""
        words = self.words_up_to([NONE, A], 5)
        return {tuple(says(sheet, state_after(sheet, state, word)) for word in words)
                for state in states_come_to(sheet, ALL_LOTS)}

    def test_what_is_asked_again_is_told_again(self):
        for _ in range(2):
            self.assertEqual(like_states(LOOSE[:8] + (("not", 7),), [A, B]), [((False,),), ((True,),)])


if __name__ == "__main__":
    unittest.main()
