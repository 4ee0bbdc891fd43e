"""[0.1] to [0.3] over the whole program: what is passed stays, what is returned is new and plain, and is told again."""

import copy
import importlib
import inspect
import unittest

from splitsays.claims import claim_truth
from splitsays.drawing import drawn, left_to_draw
from splitsays.house import House
from splitsays.kamp import claim_of, saying_of
from splitsays.sheets import denied
from splitsays.splitting import cases, left_of, split
from splitsays.truths import truth
from tests.plain import A, FAR, NONE, R, rows
from tests.plainbooks import ANSWER, LETTER_W, NEVER, SHALL_A, W_BEFORE, YES
from tests.plainsheets import K, LETTER_A, LOOSE
from tests.test_package import INTERFACE

ROW = (2, (NONE, A), (A,), (("b",), NONE))
SINCE = LETTER_A + (("letter", "b"), ("since", 0, 1))
UNTIL = LETTER_A + (("letter", "b"), ("until", 0, 1))
HEAVY = (("letter", "a"), ("since", 0, 0), ("not", 1), ("until", 2, 2), ("not", 3), ("since", 4, 4), ("until", 5, 5))
CLAIM = ("some", "x", ("and", ("before", "x", "t"), ("mark", "a", "x")))
ENDED = (("a",), ("w",), ((W_BEFORE, NEVER),))
ANYTHING = [[1, {"a": [2]}], ("not", [3])]

# Each function: arguments with which it is called.
CALLS = {
    "words": {name: [("a1",), ([1],), (True,), (-3,)] for name in ("is_word", "is_integer", "is_number")},
    "rows": {
        "is_lot": [(A,), (["a"],)], "check_row": [(R,), (ANYTHING,), ((1, (), (), ()),)], "lot_at": [(R, FAR)],
        "holds": [(R, "a", 1)], "letters_of": [(R,)], "one_form": [((5, (NONE, NONE), (NONE,), (A,)),)],
        "are_alike": [(R, ROW)], "nearest_unlike": [(R, ROW), (R, R)], "shifted": [(R, FAR)], "mirrored_row": [(R,)],
        "joined_rows": [(R, ROW, 3)], "with_lot": [(R, -4, A)],
    },
    "lexemes": {"lexemes": [("at -12",), ("at $",)]},
    "rowtexts": {"row_text": [(R,)], "lot_text": [(A,)],
                 "read_row": [("row at 0 { left (); middle; right (a); }",), ("row",),
                              ("row at 0 { left (b a); middle; right (a); }",)]},
    "sheets": {
        "check_sheet": [(K,), (ANYTHING,), ((("not", 0),),)], "needed": [(LOOSE,)], "letters_in": [(LOOSE,)],
        "part": [(LOOSE, 7)], "tidy": [(LOOSE,)], "put": [("until", K, LOOSE)], "denied": [(K,)],
        "mirrored_sheet": [(K,)],
    },
    "sheettexts": {"sheet_text": [(K,)], "read_sheet": [("sheet { yes; }",), ("sheet",), ("sheet { not 0; }",)]},
    "truths": {
        "truth": [(K, R, FAR)], "truths": [(LOOSE, R, 1)], "truth_row": [(K, ROW)], "are_alike_on": [(K, UNTIL, R)],
        "nearest_apart": [(K, UNTIL, R), (K, K, R)],
    },
    "shown": {"shown": [(UNTIL, R, 0), (UNTIL, R, 5), (SINCE, R, 0)]},
    "canbe": {"can_be": [(K,), (denied(YES[:0] + (YES,)),)], "is_always": [(K,)], "alike": [(K, UNTIL), (K, K)]},
    "kinds": {
        **{name: [(K,), (LOOSE,), (UNTIL,)] for name in (
            "rests_on", "is_past", "is_now", "is_future", "is_split", "kind", "turns", "weight")},
        "touched": [(K, 5), (LOOSE, 9)],
    },
    "drawing": {
        "drawn": [(K, 5, 3)], "judge_drawn": [(K, 5, 3, K), (K, 5, 3, ANYTHING), (K, 5, 3, drawn(K, 5, 3))],
        "left_to_draw": [(K,), (UNTIL,)],
    },
    "splitting": {"split": [(K,), (HEAVY,)], "cases": [(split(K),), (denied((YES,)),)], "left_of": [(split(K), R, 0)]},
    "histories": {
        "state_behind": [(SINCE, (A, ("b",)))], "next_state": [(SINCE, (True,), A)],
        "state_after": [(SINCE, (True,), (A, NONE))], "says": [(SINCE, (False,))],
        "states_come_to": [(SINCE, [A, NONE])], "like_states": [(SINCE, [A, NONE])],
        "told_apart": [(SINCE, [A, NONE], (False,), (True,)), (SINCE, [A], (True,), (True,)),
                       (W_BEFORE + (("since", 3, 2),), [A, ("w",)], (True, False), (False, False))],
    },
    "leftover": {"left_over": [(UNTIL, (("b",), NONE)), (UNTIL, ())]},
    "claims": {
        "check_claim": [(CLAIM,), (ANYTHING,), (("not", ANYTHING),)], "free_names": [(CLAIM,)], "depth": [(CLAIM,)],
        "breadth": [(CLAIM,)], "claim_truth": [(CLAIM, R, FAR)],
    },
    "kamp": {"saying_of": [(CLAIM,)], "claim_of": [(K,), (UNTIL,)]},
    "rules": {
        "check_rules": [(ANSWER,), (ANYTHING,), ((A, ("w",), ANYTHING),)], "begin": [(ANSWER,)],
        "keeps": [(ANSWER, ((True,),), A)], "next_of": [(ANSWER, ((True,),), A)], "good_states": [(ANSWER,), (ENDED,)],
        "rank": [(ENDED, ((False,),)), (ANSWER, ((True,),))], "worst": [(ENDED, ((False,),)), (ANSWER, ((True,),))],
        "answer": [(ANSWER, ((True,),), ("w",)), (ENDED, ((True,),), NONE)],
    },
}


def outcome(call, arguments):
    """What a call returns, or the class and the attributes of the error that it raises."""
    try:
        return ("returned", call(*arguments))
    except (ValueError, LookupError) as error:
        return ("raised", type(error), vars(error))


def is_plain(value):
    if type(value) in (tuple, list):
        return all(is_plain(member) for member in value)
    return value is None or type(value) in (int, str, bool)


def lists_in(value):
    """All lists in a value, itself too."""
    if type(value) not in (list, tuple):
        return []
    return [value] * (type(value) is list) + [found for member in value for found in lists_in(member)]


def listless(value):
    """The same with a tuple in the place of each list."""
    return tuple(listless(member) for member in value) if type(value) in (list, tuple) else value


class Functions(unittest.TestCase):
    def each(self):
        for module, told in CALLS.items():
            for name, calls in told.items():
                call = getattr(importlib.import_module(f"splitsays.{module}"), name)
                for arguments in calls:
                    yield name, call, arguments

    def test_all_of_them_are_looked_at(self):
        for module, told in INTERFACE.items():
            functions = [name for name, arguments in told.items() if isinstance(arguments, list)]
            if module != "errors":
                self.assertEqual(sorted(CALLS.get(module, {})), sorted(functions), module)

    def test_nothing_that_is_passed_is_changed(self):
        for name, call, arguments in self.each():
            kept = copy.deepcopy(arguments)
            outcome(call, arguments)
            self.assertEqual(repr(arguments), repr(kept), name)

    def test_a_call_that_is_repeated_is_answered_again(self):
        for name, call, arguments in self.each():
            first = outcome(call, arguments)
            outcome(call, copy.deepcopy(arguments))
            for again in (arguments, copy.deepcopy(arguments)):
                self.assertEqual(repr(outcome(call, again)), repr(first), name)

    def test_what_is_returned_is_plain(self):
        for name, call, arguments in self.each():
            kind, told, *_ = outcome(call, arguments)
            if kind == "returned":
                self.assertTrue(is_plain(told), name)

    def test_lists_that_are_returned_are_new(self):
        found = 0
        for name, call, arguments in self.each():
            answers = [outcome(call, arguments)[1] for _ in range(2)]
            lists = lists_in(answers[0]) + lists_in(answers[1]) + lists_in(list(arguments))
            self.assertEqual(len({id(one) for one in lists}), len(lists), name)
            kind, told, *_ = outcome(call, arguments)
            if kind == "returned" and type(told) is list:
                found += 1
                kept = repr(told)
                told.append("more")
                self.assertEqual(repr(outcome(call, arguments)[1]), kept, name)
        self.assertGreater(found, 10)

    def test_tuples_may_be_passed_instead_of_lists(self):
        for name in ("states_come_to", "like_states", "told_apart"):
            module = importlib.import_module("splitsays.histories")
            for arguments in CALLS["histories"][name]:
                call = getattr(module, name)
                self.assertEqual(call(*listless(arguments)), call(*arguments))


class Errors(unittest.TestCase):
    def test_each_class_is_raised_somewhere(self):
        found = set()
        for _, call, arguments in Functions().each():
            kind, told, *_ = outcome(call, arguments)
            if kind == "raised":
                found.add(told.__name__)
        house = House(ANSWER)
        for call, arguments in ((house.do, (5,)), (house.undo, ()), (house.redo, ()), (house.since, ([1],))):
            first, again = outcome(call, arguments), outcome(call, arguments)
            self.assertEqual(first, again)
            found.add(first[1].__name__)
        self.assertEqual(found, {"BadRow", "BadSheet", "BadClaim", "BadRules", "BadText", "TooGreat", "BadAct",
                                 "NothingDone", "UnknownName"})

    def test_paths_are_tuples(self):
        for name, call, arguments in Functions().each():
            kind, _, *told = outcome(call, arguments)
            if kind == "raised" and "path" in told[0]:
                self.assertIs(type(told[0]["path"]), tuple, name)


class Modules(unittest.TestCase):
    def test_a_method_that_raises_changes_nothing(self):
        house = House(ANSWER)
        house.do(("moment", ("w",)))
        house.do(("moment", A))
        house.undo()
        kept = (house.history(), house.acts(), house.marks(), house.state(), house.book())
        for call, argument in ((house.do, ("moment", ("c",))), (house.do, ANYTHING), (house.since, "m")):
            with self.assertRaises((ValueError, LookupError)):
                call(argument)
        self.assertEqual((house.history(), house.acts(), house.marks(), house.state(), house.book()), kept)
        self.assertEqual(house.redo(), 2)

    def test_nothing_is_imported_from_the_package_itself(self):
        package = importlib.import_module("splitsays")
        own = [name for name, value in vars(package).items() if inspect.isfunction(value) or inspect.isclass(value)]
        self.assertEqual(own, [])


class Together(unittest.TestCase):
    """[0.1]: the parts of the package used one after another."""

    def test_a_saying_becomes_a_table(self):
        for sheet in (K, (("letter", "w"), ("letter", "a"), ("until", 1, 0), ("since", 2, 1))):
            for row in rows(340, 6, letters=("a", "b", "w")):
                for moment in (-4, 0, 1, 5):
                    found = [[truth(told, row, moment) for told in triple] for triple in cases(split(sheet))]
                    self.assertEqual(found.count([True] * 3), 1 if truth(sheet, row, moment) else 0)
                    self.assertIs(truth(left_of(split(sheet), row, moment), row, moment), truth(sheet, row, moment))

    def test_from_a_claim_to_a_table(self):
        claim = ("some", "x", ("and", ("before", "x", "t"), ("and", ("mark", "a", "x"), ("some", "y", (
            "and", ("before", "x", "y"), ("mark", "b", "y"))))))
        sheet = split(saying_of(claim))
        self.assertEqual(left_to_draw(sheet), [])
        for row in rows(341, 6):
            for moment in (-4, 0, 1, 5, FAR):
                self.assertIs(truth(sheet, row, moment), claim_truth(claim, row, moment))
                self.assertIs(claim_truth(claim_of(K), row, moment), truth(sheet, row, moment))

    def test_a_house_keeps_what_its_rules_say(self):
        # Whenever w held at the moment before, a holds: so says the sheet at each moment of the history.
        house = House(ANSWER)
        for choice in (NONE, ("w",), ("w",), NONE, NONE, ("w",), NONE):
            house.do(("see", choice))
        row = (0, (NONE,), tuple(house.history()), (NONE,))
        kept = W_BEFORE + (("not", 3), SHALL_A[0], ("or", 4, 5))
        self.assertEqual([truth(kept, row, moment) for moment in range(7)], [True] * 7)
        self.assertEqual(house.state(), ((LETTER_W[1] in house.history()[-1],),))


if __name__ == "__main__":
    unittest.main()
