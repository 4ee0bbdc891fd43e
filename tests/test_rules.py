"""[S10.1], [S10.2], [0.2] and the interface: splitsays/rules.py."""

import itertools
import random
import unittest

from splitsays.errors import BadRow, BadRules, SayError
from splitsays.kinds import is_now, is_past
from splitsays.rows import is_lot
from splitsays.rules import answer, begin, check_rules, good_states, keeps, next_of, rank, worst
from tests.plain import A, AB, B, C, NONE, STRANGE, nested
from tests.plainbooks import (
    ANSWER, LETTER_W, NEVER, SHALL_A, W_BEFORE, YES, Game, books, come_to, is_kept, lots_of, moments_of, next_state,
    sinces, state_after,
)
from tests.plainsheets import K, LETTER_A

W = ("w",)
# If w held n moments ago, then nothing may be: the world can end it n moments after a w.
ALWAYS = (("yes",),)


def ago(letter, many):
    """A sheet of the past that says that a letter held so many moments ago."""
    sheet = (("letter", letter), YES, ("not", 1))
    for _ in range(many):
        sheet += (("since", 0 if len(sheet) == 3 else len(sheet) - 1, 2),)
    return sheet


def forbids(letter, many):
    return (ago(letter, many), NEVER)


class Judged(unittest.TestCase):
    def check(self, value, path):
        kept = repr(value)
        for _ in range(2):
            if path is None:
                self.assertIsNone(check_rules(value))
            else:
                with self.assertRaises(BadRules) as caught:
                    check_rules(value)
                self.assertEqual(caught.exception.path, path, value)
                self.assertIsInstance(caught.exception, SayError)
        self.assertEqual(repr(value), kept)

    def test_books(self):
        for book in (ANSWER, ((), (), ()), (A, (), ()), ((), W, ((ALWAYS, ALWAYS),)),
                     (AB, W, ((W_BEFORE, NEVER),) * 6)):
            self.check(book, None)
        for book in books(300, 100):
            self.check(book, None)

    def test_no_tuple_with_three_members(self):
        for value in STRANGE + [(), (A, B), (A, B, (), ()), [A, B, ()], list(ANSWER), "abc", 0, BadRow(())]:
            self.check(value, ())

    def test_own_and_world(self):
        for wrong in STRANGE + [["a"], ("b", "a"), ("a", "a"), ("A",), "a", (1,), (True,), {"a": 1}]:
            if wrong != ():
                self.check((wrong, W, ()), (0,))
                self.check((A, wrong, ()), (1,))
                self.check((wrong, wrong, 5), (0,))
                self.check((A, wrong, 5), (1,))
        self.check((AB, ("b", "w"), ()), (1,))
        self.check((AB, A, 5), (1,))
        self.check((AB, C, ()), None)

    def test_rules(self):
        for wrong in STRANGE + [[], [(W_BEFORE, SHALL_A)], "ab", 7]:
            if not isinstance(wrong, tuple):
                self.check((AB, W, wrong), (2,))
        for wrong in STRANGE + [[W_BEFORE, SHALL_A], (W_BEFORE,), (W_BEFORE, SHALL_A, SHALL_A), W_BEFORE, "ab", 7]:
            if not (isinstance(wrong, tuple) and len(wrong) == 2):
                self.check((AB, W, (wrong,)), (2, 0))
                self.check((AB, W, ((W_BEFORE, SHALL_A), wrong, 5)), (2, 1))

    def test_was_and_shall(self):
        future = (LETTER_W, ("yes",), ("until", 0, 1))
        for wrong in STRANGE + [list(W_BEFORE), future, SHALL_A, K, W_BEFORE + (("and", 3, 0),), ("yes",), "w",
                                W_BEFORE + (("since", 3, 9),), W_BEFORE[:3] + (["since", 0, 2],),
                                (("letter", "c"), ("since", 0, 0)), (("letter", "W"), ("since", 0, 0))]:
            self.check((AB, W, ((wrong, SHALL_A),)), (2, 0, 0))
            self.check((AB, W, ((W_BEFORE, SHALL_A), (wrong, wrong))), (2, 1, 0))
        for wrong in STRANGE + [list(SHALL_A), future, W_BEFORE, K, ("yes",), "a", SHALL_A + (("not", 1),),
                                (("letter", "c"),), (["letter", "a"],)]:
            self.check((AB, W, ((W_BEFORE, wrong),)), (2, 0, 1))
            self.check((AB, W, ((W_BEFORE, SHALL_A), (W_BEFORE, wrong), 5)), (2, 1, 1))

    def test_lines_that_are_not_needed_play_no_role(self):
        was = (("letter", "c"), ("until", 0, 0)) + tuple(
            (line[0], *[member + 2 for member in line[1:]]) if line[0] != "letter" else line for line in W_BEFORE)
        self.check((AB, W, ((was, (("letter", "c"), ("letter", "b"))),)), None)
        self.check((AB, (), ((W_BEFORE, SHALL_A),)), (2, 0, 0))
        self.check((("b",), W, ((W_BEFORE, SHALL_A),)), (2, 0, 1))

    def test_deep_values(self):
        for kind in (tuple, list, dict):
            deep = nested((), 36, kind)
            self.check((AB, W, ((deep, SHALL_A),)), (2, 0, 0))
            self.check((AB, W, ((W_BEFORE, deep),)), (2, 0, 1))
            self.check((AB, W, ((W_BEFORE, (("not", deep),)),)), (2, 0, 1))


class States(unittest.TestCase):
    def test_by_hand(self):
        self.assertEqual(begin(ANSWER), ((False,),))
        self.assertEqual(next_of(ANSWER, ((False,),), ("a", "w")), ((True,),))
        self.assertEqual(next_of(ANSWER, ((True,),), A), ((False,),))
        self.assertIs(keeps(ANSWER, ((True,),), A), True)
        self.assertIs(keeps(ANSWER, ((True,),), ("b", "w")), False)
        self.assertIs(keeps(ANSWER, ((False,),), NONE), True)
        # Nothing has held: so a since line whose first member denies a letter is true at the beginning.
        never = (LETTER_W, ("not", 0), ("since", 1, 1))
        self.assertEqual(begin(((), W, ((never, ALWAYS), (W_BEFORE, ALWAYS)))), ((True,), (False,)))

    def test_no_rules(self):
        for book in (((), (), ()), (AB, W, ())):
            self.assertEqual(begin(book), ())
            self.assertEqual(next_of(book, (), NONE), ())
            self.assertIs(keeps(book, (), NONE), True)
            self.assertEqual(good_states(book), [()])
            self.assertIsNone(rank(book, ()))
            self.assertIsNone(worst(book, ()))
            self.assertIn(answer(book, (), NONE), lots_of(book[0]))

    def test_rules_that_rest_on_nothing(self):
        book = (A, W, ((ALWAYS, SHALL_A), (NEVER, NEVER)))
        self.assertEqual(begin(book), ((), ()))
        self.assertIs(keeps(book, ((), ()), A), True)
        self.assertIs(keeps(book, ((), ()), W), False)
        self.assertEqual(good_states(book), [((), ())])
        self.assertEqual(answer(book, ((), ()), W), A)
        ended = (A, W, ((ALWAYS, (LETTER_W,)),))
        self.assertEqual(good_states(ended), [])
        self.assertEqual((rank(ended, ((),)), worst(ended, ((),))), (0, NONE))
        self.assertIsNone(answer(ended, ((),), NONE))
        self.assertIn(answer(ended, ((),), W), (NONE, A))

    def test_against_the_words(self):
        chance = random.Random(301)
        for book in books(302, 120):
            lots = [chance.choice(moments_of(book))[0] for _ in range(6)]
            state = begin(book)
            self.assertEqual(state, state_after(book, ()))
            for at, lot in enumerate(lots):
                self.assertIs(keeps(book, state, lot), is_kept(book, state, lot))
                state = next_of(book, state, lot)
                self.assertEqual(state, state_after(book, lots[:at + 1]))
            # States that are not come to are passed, too.
            state = tuple(tuple(chance.random() < 0.5 for _ in part) for part in state)
            self.assertEqual(next_of(book, state, lots[0]), next_state(book, state, lots[0]))
            self.assertIs(keeps(book, state, lots[0]), is_kept(book, state, lots[0]))


class Ranks(unittest.TestCase):
    def test_by_hand(self):
        self.assertEqual(good_states(ANSWER), [((False,),), ((True,),)])
        # The world can see to it that no choice keeps it, once w has held.
        book = (A, W, (forbids("w", 3),))
        begins = begin(book)
        self.assertEqual(begins, ((False,) * 3,))
        self.assertEqual(good_states(book), [])
        self.assertEqual(rank(book, begins), 3)
        self.assertEqual(worst(book, begins), W)
        self.assertEqual(rank(book, ((True, False, False),)), 2)
        self.assertEqual(rank(book, ((False, True, False),)), 1)
        self.assertEqual(rank(book, ((True, True, True),)), 0)
        for choice in (NONE, W):
            self.assertIsNone(answer(book, ((False, False, True),), choice))
            self.assertIn(answer(book, ((False, True, False),), choice), (NONE, A))
        # The doer can always see to it that the letter a did not hold.
        book = (A, W, (forbids("a", 2),))
        self.assertEqual(good_states(book), [((False, False),)])
        self.assertEqual(rank(book, ((True, False),)), 1)
        self.assertEqual(rank(book, ((True, True),)), 0)
        for choice in (NONE, W):
            self.assertEqual(answer(book, begin(book), choice), NONE)
        self.assertIsNone(worst(book, begin(book)))

    def test_the_greatest_rank_is_chosen(self):
        # After a it ends two moments later, after none one moment later; with b as well there is none of both.
        shall = (("letter", "a"), ("letter", "b"), ("and", 0, 1), ("not", 2))
        nothing = (("letter", "a"), ("letter", "b"), ("or", 0, 1), ("not", 2), ("yes",), ("not", 4), ("since", 3, 5))
        book = (AB, W, ((ALWAYS, shall), forbids("a", 3), forbids("b", 2), (nothing, NEVER)))
        start = (((), (False,) * 3, (False,) * 2, (False,)))
        self.assertEqual(rank(book, start), 3)
        self.assertEqual(answer(book, start, NONE), A)
        self.assertEqual(answer(book, start, W), A)
        later = next_of(book, start, A)
        self.assertEqual(rank(book, later), 2)
        self.assertEqual(rank(book, next_of(book, start, B)), 1)

    def test_ascending(self):
        book = (AB, ("v", "w"), ((ago("w", 2), ALWAYS), (ago("a", 2), ALWAYS)))
        self.assertEqual(good_states(book), [(one, other) for one in itertools.product((False, True), repeat=2)
                                             for other in itertools.product((False, True), repeat=2)])

    def test_states_that_are_come_to_by_lots_that_do_not_keep_the_book(self):
        # a may never hold; but the state after it is good.
        book = (A, (), ((ALWAYS, (("letter", "a"), ("not", 0))), (ago("a", 1), ALWAYS)))
        self.assertEqual(good_states(book), [((), (False,)), ((), (True,))])

    def test_many(self):
        chance = random.Random(303)
        found = {}
        for book in books(304, 250, most_sinces=6):
            states = come_to(book)
            game = Game(book, states)
            good, ranks = game.good(), game.ranks()
            self.assertEqual(good_states(book), sorted(good))
            for state in sorted(states)[:12]:
                self.assertEqual(rank(book, state), ranks.get(state))
                self.check_choices(book, game, good, ranks, state)
                found[ranks.get(state)] = True
        self.assertLessEqual({None, 0, 1, 2}, set(found))

    def check_choices(self, book, game, good, ranks, state):
        told = worst(book, state)
        self.assertEqual(told is None, state in good)
        if told is not None:
            self.assertTrue(is_lot(told))
            later = game.moves[state][told].values()
            self.assertTrue(all(other in ranks and ranks[other] < ranks[state] for other in later))
        for choice, moves in game.moves[state].items():
            own = answer(book, state, choice)
            self.assertEqual(answer(book, state, choice), own)
            if not moves:
                self.assertIsNone(own)
                continue
            self.assertIn(own, moves)
            if any(later in good for later in moves.values()):
                self.assertIn(moves[own], good)
            else:
                self.assertEqual(ranks[moves[own]], max(ranks[later] for later in moves.values()))

    def test_the_doer_has_the_rank_for_a_promise(self):
        # Whatever the world chooses, and if it chooses by the rank for just as many moments.
        chance = random.Random(305)
        looked = 0
        for book in books(306, 200, most_sinces=5):
            state = begin(book)
            promised = rank(book, state)
            if promised is None:
                continue
            looked += 1
            for by_rank in (True, False):
                at, gone = state, 0
                while gone <= promised + 12:
                    told = worst(book, at)
                    choice = told if by_rank else chance.choice(lots_of(book[1]))
                    own = None if choice is None else answer(book, at, choice)
                    if own is None:
                        break
                    lot = tuple(sorted(choice + own))
                    self.assertIs(keeps(book, at, lot), True)
                    at, gone = next_of(book, at, lot), gone + 1
                self.assertGreaterEqual(gone, promised)
                if by_rank:
                    self.assertEqual(gone, promised)
        self.assertGreater(looked, 20)

    def test_states_that_are_not_come_to(self):
        chance = random.Random(307)
        for book in books(308, 60, most_sinces=4):
            state = tuple(tuple(chance.random() < 0.5 for _ in part) for part in begin(book))
            game = Game(book, come_to(book, state))
            good, ranks = game.good(), game.ranks()
            for choice, moves in game.moves[state].items():
                own = answer(book, state, choice)
                self.assertEqual(own is None, not moves)
                if moves and any(later in good for later in moves.values()):
                    self.assertIn(moves[own], good)
                elif moves:
                    self.assertEqual(ranks[moves[own]], max(ranks[later] for later in moves.values()))

    def test_the_greatest_books(self):
        book = (AB, ("v", "w"), (forbids("w", 5), (ago("v", 1), SHALL_A), (ago("a", 1), (("letter", "b"),)),
                                 (ago("b", 1), ALWAYS)))
        self.assertEqual(sum(len(sinces(was)) for was, _ in book[2]), 8)
        self.assertTrue(all(is_past(was) and is_now(shall) for was, shall in book[2]))
        self.assertEqual(rank(book, begin(book)), 5)
        self.assertEqual(good_states(book), [])
        self.assertIn("w", worst(book, begin(book)))
        none_lasts = (AB, ("v", "w"), ((ago("w", 4), SHALL_A), (ago("v", 4), (("letter", "b"),))))
        self.assertEqual(len(good_states(none_lasts)), 256)
        self.assertEqual(answer(none_lasts, ((False,) * 3 + (True,),) * 2, W), AB)

    def test_lists_are_new_each_time(self):
        one = good_states(ANSWER)
        one.clear()
        self.assertEqual(len(good_states(ANSWER)), 2)

    def test_letters_that_no_rule_has(self):
        self.assertEqual(good_states((AB, W, ((LETTER_A + (("since", 0, 0),), ALWAYS),))), [((False,),), ((True,),)])


if __name__ == "__main__":
    unittest.main()
