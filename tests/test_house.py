"""[S10.3], [S10.4], [0.2] and the interface: splitsays/house.py."""

import random
import unittest

from splitsays.errors import BadAct, BadRow, NameMissing, NothingDone, SayError, UnknownName
from splitsays.house import House
from splitsays.rules import answer, begin, good_states, keeps
from tests.plain import A, AB, B, NONE, STRANGE, nested
from tests.plainbooks import (
    ANSWER, LETTER_W, NEVER, SHALL_A, W_BEFORE, YES, a_shall, a_was, books, moments_of, sinces, state_after,
)
from tests.plainsheets import K

W = ("w",)
ALWAYS = (YES,)
SHALL_B = (("letter", "b"),)
FREE = (("a", "b"), ("w",), ())
# w held at some moment.
W_EVER = (LETTER_W, YES, ("since", 0, 1))
RULE = ("rule", W_BEFORE, SHALL_A)


def told(house):
    return (house.book(), house.history(), house.state(), house.is_good(), house.acts(), house.marks(),
            [house.since(name) for name in house.marks()])


class Refused(unittest.TestCase):
    def check(self, house, act, word):
        """It is told by the word that an act cannot be done, and nothing is changed."""
        before, kept = told(house), repr(act)
        for _ in range(2):
            self.assertEqual(house.act_word(act), word, act)
            with self.assertRaises(BadAct) as caught:
                house.do(act)
            self.assertEqual(caught.exception.word, word)
            self.assertIsInstance(caught.exception, SayError)
        self.assertEqual(told(house), before)
        self.assertEqual(repr(act), kept)

    def test_form(self):
        house = House(ANSWER)
        for act in STRANGE + [(), "moment", ("moment",), ("moment", A, A), ["moment", A], ("see",), ("see", W, W),
                              ("drop",), ("drop", 0, 0), ("rule", W_BEFORE), ("rule", W_BEFORE, SHALL_A, SHALL_A),
                              ("rule",), 5,
                              ("moments", A), (("moment",), A), ("Moment", A), (True, A), ({}, A), (["moment"], A),
                              (None, A), BadRow(()), nested("moment", 40, tuple), ("undo",)]:
            self.check(house, act, "form")

    def test_no_lots(self):
        house = House(ANSWER)
        for lot in STRANGE + [["a"], ("b", "a"), ("a", "a"), ("c",), ("a", "c"), "a", ("A",), 5, (True,)]:
            if lot != ():
                self.check(house, ("moment", lot), "lot")
                self.check(house, ("see", lot), "lot")
        # What the world chooses has letters of world alone.
        self.check(house, ("see", A), "lot")
        self.check(house, ("see", ("a", "w")), "lot")

    def test_lots_that_break_the_book(self):
        house = House(ANSWER)
        house.do(("moment", W))
        for lot in (NONE, W, B, ("b", "w")):
            self.check(house, ("moment", lot), "breaks")
        self.assertIsNone(house.act_word(("moment", A)))

    def test_nothing_keeps_it(self):
        house = House((AB, W, ((W_BEFORE, NEVER),)))
        house.do(("see", W))
        for lot in (NONE, W):
            self.check(house, ("see", lot), "stuck")
        self.check(house, ("moment", NONE), "breaks")
        # One choice of the world can be answered, and the other one cannot.
        house = House((AB, W, ((ALWAYS, (LETTER_W,)),)))
        self.check(house, ("see", NONE), "stuck")
        self.assertIsNone(house.act_word(("see", W)))

    def test_sixty_moments(self):
        house = House(ANSWER)
        for at in range(60):
            self.assertEqual(house.do(("see", W) if at % 3 else ("moment", ("a", "w"))), at + 1)
        self.check(house, ("moment", A), "many")
        self.check(house, ("see", W), "many")
        # The first word that fits is told.
        self.check(house, ("moment", B), "breaks")
        self.check(house, ("moment", ("c",)), "lot")
        self.check(house, ("see", A), "lot")
        house.do(("rule", W_EVER, NEVER))
        self.check(house, ("see", W), "stuck")
        self.assertEqual(len(house.history()), 60)
        house.do(("drop", 1))
        for _ in range(3):
            house.undo()
        self.assertEqual(len(house.history()), 59)
        self.assertEqual(house.do(("see", NONE)), 60)

    def test_rules(self):
        house = House(ANSWER)
        future = (LETTER_W, YES, ("until", 0, 1))
        for wrong in STRANGE + [list(W_BEFORE), future, SHALL_A, K, W_BEFORE + (("since", 3, 9),), "w",
                                (("letter", "c"), ("since", 0, 0)), W_BEFORE + (("and", 0, 3),)]:
            self.check(house, ("rule", wrong, SHALL_A), "was")
            self.check(house, ("rule", wrong, wrong), "was")
        for wrong in STRANGE + [list(SHALL_A), future, W_BEFORE, K, (("letter", "c"),), "a", SHALL_A + (("not", 5),)]:
            self.check(house, ("rule", W_BEFORE, wrong), "shall")
        for kind in (tuple, list, dict):
            self.check(house, ("rule", nested((), 38, kind), SHALL_A), "was")
            self.check(house, ("rule", W_BEFORE, nested((), 38, kind)), "shall")

    def test_four_rules(self):
        house = House(FREE)
        for at in range(4):
            self.assertEqual(house.do(("rule", ALWAYS, ALWAYS)), at + 1)
        self.check(house, ("rule", ALWAYS, ALWAYS), "many")
        self.check(house, ("rule", SHALL_A, ALWAYS), "was")
        self.check(house, ("rule", ALWAYS, W_BEFORE), "shall")
        house.do(("drop", 2))
        self.assertIsNone(house.act_word(("rule", ALWAYS, ALWAYS)))

    def test_eight_since_lines(self):
        def of(many):
            sheet = (LETTER_W, YES)
            for _ in range(many):
                sheet += (("since", 0 if len(sheet) == 2 else len(sheet) - 1, 1),)
            return sheet

        house = House(FREE)
        house.do(("rule", of(5), ALWAYS))
        self.check(house, ("rule", of(4), ALWAYS), "many")
        # Lines that are not needed do not count; lines that are built alike do.
        self.assertIsNone(house.act_word(("rule", of(4) + of(3), ALWAYS)))
        twins = (LETTER_W,) + (("since", 0, 0),) * 4 + (("or", 1, 2), ("or", 3, 4), ("or", 5, 6))
        self.check(house, ("rule", twins, ALWAYS), "many")
        house.do(("rule", of(3), ALWAYS))
        self.check(house, ("rule", of(1), ALWAYS), "many")
        house.do(("rule", ALWAYS, ALWAYS))
        house.do(("drop", 0))
        self.assertIsNone(house.act_word(("rule", of(5), ALWAYS)))
        self.check(house, ("rule", of(6), ALWAYS), "many")

    def test_drops(self):
        house = House(ANSWER)
        for number in STRANGE + [1, -1, True, False, "0", (0,), 10 ** 39, -10 ** 39, None]:
            self.check(house, ("drop", number), "number")
        house.do(("drop", 0))
        self.check(house, ("drop", 0), "number")


class Done(unittest.TestCase):
    def test_a_new_house(self):
        house = House(ANSWER)
        self.assertEqual(told(house), (ANSWER, [], begin(ANSWER), True, [], [], []))
        self.assertIs(House((A, W, ((W_EVER, NEVER),))).is_good(), False)

    def test_by_hand(self):
        house = House(ANSWER)
        self.assertEqual(house.do(("moment", ("b", "w"))), 1)
        self.assertEqual(house.state(), ((True,),))
        self.assertEqual(house.do(("see", NONE)), 2)
        self.assertIn(house.history(), [[("b", "w"), A], [("b", "w"), AB]])
        self.assertEqual(house.acts(), [("moment", ("b", "w")), ("see", NONE)])
        self.assertEqual(house.do(("rule", W_EVER, SHALL_B)), 3)
        # The history has broken the new rule, which does not matter.
        self.assertEqual(house.state(), ((False,), (True,)))
        self.assertEqual(house.book(), (AB, W, ((W_BEFORE, SHALL_A), (W_EVER, SHALL_B))))
        self.assertEqual(house.do(("see", W)), 4)
        self.assertIn("b", house.history()[-1])
        self.assertEqual(house.do(("drop", 0)), 5)
        self.assertEqual(house.book(), (AB, W, ((W_EVER, SHALL_B),)))
        self.assertEqual(house.state(), ((True,),))

    def test_a_rule_that_comes_late(self):
        # Nothing held ahead of the history.
        never = (LETTER_W, ("not", 0), YES, ("since", 1, 2))
        house = House(FREE)
        for lot in (W, W, ("a", "w")):
            house.do(("moment", lot))
        for was in (W_BEFORE, W_EVER, never):
            house.do(("rule", was, ALWAYS))
        self.assertEqual(house.state(), state_after(house.book(), house.history()))
        self.assertEqual(house.state(), ((True,), (True,), (True,)))

    def test_answers_are_those_that_are_told(self):
        for book in books(310, 60):
            house = House(book)
            chance = random.Random(311)
            for _ in range(8):
                choice = tuple(letter for letter in book[1] if chance.random() < 0.5)
                own = answer(book, house.state(), choice)
                if own is None:
                    self.assertEqual(house.act_word(("see", choice)), "stuck")
                    break
                before = house.state()
                house.do(("see", choice))
                self.assertEqual(house.history()[-1], tuple(sorted(choice + own)))
                self.assertIs(keeps(book, before, house.history()[-1]), True)
            self.assertEqual(house.state(), state_after(book, house.history()))

    def test_a_house_at_a_good_state_goes_on(self):
        for book in books(312, 80):
            house = House(book)
            self.assertIs(house.is_good(), begin(book) in good_states(book))
            if house.is_good():
                chance = random.Random(313)
                for _ in range(20):
                    house.do(("see", tuple(letter for letter in book[1] if chance.random() < 0.5)))
                    self.assertIs(house.is_good(), True)


class Undone(unittest.TestCase):
    def test_by_hand(self):
        house = House(ANSWER)
        for _ in range(2):
            for call in (house.undo, house.redo):
                with self.assertRaises(NothingDone) as caught:
                    call()
                self.assertIsInstance(caught.exception, SayError)
                self.assertEqual(vars(caught.exception), {})
        house.do(("moment", W))
        house.do(RULE)
        house.do(("drop", 0))
        self.assertEqual(house.undo(), 2)
        self.assertEqual(house.book()[2], ANSWER[2] * 2)
        self.assertEqual(house.acts(), [("moment", W), RULE])
        self.assertEqual(house.undo(), 1)
        self.assertEqual(house.undo(), 0)
        self.assertEqual(told(house), told(House(ANSWER)))
        with self.assertRaises(NothingDone):
            house.undo()
        self.assertEqual([house.redo(), house.redo(), house.redo()], [1, 2, 3])
        with self.assertRaises(NothingDone):
            house.redo()
        self.assertEqual(house.history(), [W])
        self.assertEqual(house.state(), ((True,),))

    def test_what_the_doer_answered_stays(self):
        house = House(FREE)
        house.do(("see", W))
        house.do(("rule", ALWAYS, SHALL_A))
        house.do(("see", W))
        house.do(("see", NONE))
        kept = told(house)
        for _ in range(4):
            house.undo()
        for _ in range(4):
            house.redo()
        self.assertEqual(told(house), kept)
        self.assertEqual(house.acts(), [("see", W), ("rule", ALWAYS, SHALL_A), ("see", W), ("see", NONE)])

    def test_another_act_takes_away_what_can_be_done_again(self):
        house = House(ANSWER)
        house.do(("moment", W))
        house.undo()
        house.do(("moment", B))
        with self.assertRaises(NothingDone):
            house.redo()
        self.assertEqual(house.history(), [B])

    def test_what_takes_nothing_away(self):
        house = House(ANSWER)
        house.do(("moment", W))
        house.do(("moment", A))
        house.undo()
        house.undo()
        for act in (("moment", ("c",)), ("drop", 5), 7, ("see", A)):
            with self.assertRaises(BadAct):
                house.do(act)
            house.act_word(("moment", W))
        house.mark("m")
        with self.assertRaises(UnknownName):
            house.since("n")
        told(house)
        house.twin().do(("moment", B))
        self.assertEqual(house.redo(), 1)
        self.assertEqual(house.redo(), 2)
        self.assertEqual(house.history(), [W, A])

    def test_many(self):
        chance = random.Random(314)
        words = {}
        for book in books(315, 25, most_rules=2, most_sinces=3):
            house, done, undone = House(book), [told(House(book))[:5]], []
            for _ in range(40):
                act = self.an_act(chance, house)
                word = house.act_word(act)
                words[act[0], word] = True
                if chance.random() < 0.25 and len(done) > 1:
                    self.assertEqual(house.undo(), len(done) - 2)
                    undone.append(done.pop())
                elif chance.random() < 0.25 and undone:
                    done.append(undone.pop())
                    self.assertEqual(house.redo(), len(done) - 1)
                elif word is None:
                    self.assertEqual(house.do(act), len(done))
                    self.assertEqual(house.acts()[-1], act)
                    done.append(told(house)[:5])
                    undone = []
                else:
                    with self.assertRaises(BadAct):
                        house.do(act)
                self.assertEqual(told(house)[:5], done[-1])
                self.assertEqual(house.state(), state_after(house.book(), house.history()))
                self.assertLessEqual(sum(len(sinces(was)) for was, _ in house.book()[2]), 8)
        self.assertLessEqual({("moment", None), ("moment", "breaks"), ("see", None), ("see", "stuck"), ("rule", None),
                              ("rule", "many"), ("drop", None), ("drop", "number")}, set(words))

    def an_act(self, chance, house):
        own, world, rules = house.book()
        word = chance.choice(("moment", "moment", "see", "see", "rule", "rule", "drop"))
        lot, choice, _ = chance.choice(moments_of(house.book()))
        if word in ("moment", "see"):
            return (word, lot if word == "moment" else choice)
        if word == "drop":
            return (word, chance.randint(0, max(len(rules), 1)))
        return (word, a_was(chance, own + world, 3), a_shall(chance, own + world))


class Marks(unittest.TestCase):
    def test_by_hand(self):
        house = House(ANSWER)
        self.assertIsNone(house.mark("m"))
        self.assertEqual(house.since("m"), 0)
        house.do(("moment", B))
        house.do(RULE)
        house.do(("moment", NONE))
        self.assertEqual(house.since("m"), 2)
        house.mark("a1")
        self.assertEqual(house.marks(), ["a1", "m"])
        # A mark is kept if acts are taken back, and the moment is not there any more.
        house.undo()
        self.assertEqual((house.since("m"), house.since("a1")), (1, -1))
        house.undo()
        house.undo()
        self.assertEqual((house.since("m"), house.since("a1")), (0, -2))
        house.redo()
        self.assertEqual((house.since("m"), house.since("a1")), (1, -1))
        # Set anew it tells the later number.
        house.mark("m")
        self.assertEqual((house.since("m"), house.since("a1")), (0, -1))
        house.do(("moment", NONE))
        self.assertEqual((house.since("m"), house.since("a1")), (1, 0))

    def test_names_that_are_no_marks(self):
        house = House(ANSWER)
        house.mark("m")
        for name in STRANGE + ["", "n", "M", "m ", 0, 1, -1, True, ("m",), ["m"], {"m": 0}, BadRow(()), house]:
            for _ in range(2):
                with self.assertRaises(UnknownName) as caught:
                    house.since(name)
                self.assertIs(caught.exception.name, name)
                self.assertIsInstance(caught.exception, NameMissing)
        self.assertEqual(house.marks(), ["m"])

    def test_ascending(self):
        house = House(ANSWER)
        for name in ("m", "z9", "a", "m1", "b"):
            house.mark(name)
        self.assertEqual(house.marks(), ["a", "b", "m", "m1", "z9"])


class Twins(unittest.TestCase):
    def test_a_twin_goes_its_own_way(self):
        house = House(ANSWER)
        house.do(("see", W))
        house.do(("see", W))
        house.do(RULE)
        house.mark("m")
        house.undo()
        twin = house.twin()
        self.assertIsInstance(twin, House)
        self.assertEqual(told(twin), told(house))
        kept = told(house)
        self.assertEqual(twin.redo(), 3)
        twin.mark("n")
        twin.do(("drop", 0))
        twin.do(("moment", A))
        twin.mark("m")
        self.assertEqual(told(house), kept)
        self.assertEqual(house.redo(), 3)
        self.assertEqual(twin.marks(), ["m", "n"])
        self.assertEqual((house.since("m"), twin.since("m")), (0, 0))
        kept = told(twin)
        for _ in range(3):
            house.undo()
        house.do(("moment", NONE))
        self.assertEqual(told(twin), kept)
        self.assertEqual(house.history(), [NONE])
        self.assertEqual(house.since("m"), -1)
        self.assertEqual(twin.undo(), 4)

    def test_a_twin_of_a_twin(self):
        house = House(ANSWER)
        other = house.twin().twin()
        other.do(("moment", W))
        self.assertEqual((house.acts(), len(other.acts())), ([], 1))


class Lists(unittest.TestCase):
    def test_lists_are_new_each_time(self):
        house = House(ANSWER)
        house.do(("moment", W))
        house.mark("m")
        kept = told(house)
        for call in (house.history, house.acts, house.marks):
            one, other = call(), call()
            self.assertIs(type(one), list)
            self.assertIsNot(one, other)
            one.append("x")
            one.clear()
        self.assertEqual(told(house), kept)


if __name__ == "__main__":
    unittest.main()
