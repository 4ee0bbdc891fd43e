"""[S10.5], [S1.5], [S1.6] of lines, [0.2] and the interface: splitsays/console.py."""

import random
import unittest

from splitsays.console import Console
from splitsays.house import House
from splitsays.rowtexts import lot_text
from splitsays.rules import answer, rank
from splitsays.sheettexts import sheet_text
from tests.plain import A, NONE
from tests.plainbooks import ANSWER, LETTER_W, NEVER, SHALL_A, W_BEFORE, YES, books
from tests.plaintexts import LEXEME, LONG, SHEET, first_wrong, spoiled

W = ("w",)
ENDED = (("a", "b"), W, ((W_BEFORE, NEVER),))
W_TEXT = sheet_text(W_BEFORE)
W_EVER_TEXT = "sheet { letter w; yes; since 0 1; }"
WORDS = ("moment", "see", "rule", "drop", "undo", "redo", "mark", "since", "state", "moments", "now", "last")


def told(house):
    return (house.book(), house.history(), house.state(), house.is_good(), house.acts(), house.marks(),
            [house.since(name) for name in house.marks()])


def sheet_table(name, behind):
    """The table of the text of a sheet, its states being named anew."""
    named = {state: f"{name} {state}" for state in SHEET}
    named["end"] = behind
    return {named[state]: [(lexeme, named[later]) for lexeme, later in comes] for state, comes in SHEET.items()
            if state != "end"}


LINE = {
    "begin": [(word, f"{word} begin") for word in WORDS], "semicolon": [(";", "end")], "end": [],
    **{f"{word} begin": [(";", "end")] for word in ("undo", "redo", "state", "moments", "last")},
    **{f"{word} begin": [("word", "semicolon")] for word in ("mark", "since")},
    **{f"{word} begin": [("(", "in lot")] for word in ("moment", "see")},
    "in lot": [("word", "in lot"), (")", "semicolon")], "drop begin": [("number", "semicolon")],
    **sheet_table("rule", "shall"), "shall": [("shall", "shall begin")], **sheet_table("shall", "semicolon"),
    **sheet_table("now", "semicolon"),
}


class Lines(unittest.TestCase):
    def setUp(self):
        self.house = House(ANSWER)
        self.console = Console(self.house)

    def ask(self, *pairs):
        for line, answered in pairs:
            self.assertEqual(self.console.answer(line), answered, line)

    def test_the_examples(self):
        self.ask(("undo ; redo ;", "no 7"), ("drop -1 ;", "no 5"), ("undo", "no 4"), ("moment (b a) ;", "no lot"))
        self.assertEqual(told(self.house), told(House(ANSWER)))

    def test_moments(self):
        self.ask(("moment (w) ;", "done"), ("moment () ;", "no breaks"), ("moment (a);", "done"), ("moment();", "done"),
                 ("moment (c) ;", "no lot"), ("moment (a a) ;", "no lot"), ("moments ;", "3"), ("last ;", "()"))
        self.assertEqual(self.house.history(), [W, A, NONE])
        self.assertEqual(self.house.acts()[0], ("moment", W))

    def test_many(self):
        self.ask(*[("moment (b);", "done")] * 60)
        self.ask(("moment (b);", "no many"), ("see (w);", "no many"), ("moments;", "60"))

    def test_sees(self):
        own = answer(ANSWER, self.house.state(), W)
        lot = lot_text(tuple(sorted(own + W)))
        self.ask(("last ;", "none"), ("see (w) ;", f"done {lot}"), ("last ;", lot), ("see (a) ;", "no lot"),
                 ("see (w w) ;", "no lot"))
        own = answer(ANSWER, self.house.state(), NONE)
        self.assertIn("a", own)
        self.ask(("see () ;", f"done {lot_text(own)}"), ("last ;", lot_text(own)), ("moments ;", "2"))
        console = Console(House(ENDED))
        self.assertEqual([console.answer(line) for line in ("moment (w) ;", "see () ;")], ["done", "no stuck"])

    def test_rules_and_drops(self):
        self.ask((f"rule {W_EVER_TEXT} shall sheet {{ letter b; }} ;", "done"), ("moment (w) ;", "done"),
                 ("moment (a) ;", "no breaks"), ("moment (a b) ;", "done"), ("drop 2 ;", "no number"),
                 ("drop 1 ;", "done"), ("drop 1 ;", "no number"), ("drop 0 ;", "done"), ("drop 0 ;", "no number"),
                 ("moment () ;", "done"), (f"drop {'9' * 40} ;", "no number"))
        self.assertEqual(self.house.acts()[0], ("rule", (LETTER_W, YES, ("since", 0, 1)), (("letter", "b"),)))

    def test_what_is_no_sheet(self):
        shall = "sheet { letter a; }"
        for was in ("sheet { not 0; }", "sheet { letter w; since 0 7; }", "sheet { letter c; since 0 0; }", shall,
                    "sheet { letter w; until 0 0; }", f"sheet {{ yes; not {'9' * 40}; }}"):
            self.ask((f"rule {was} shall {shall} ;", "no was"), (f"rule {was} shall {was} ;", "no was"),
                     (f"now {was} ;", "no was"))
        for wrong in ("sheet { not 0; }", "sheet { letter c; }", W_TEXT, "sheet { letter w; until 0 0; }"):
            self.ask((f"rule {W_TEXT} shall {wrong} ;", "no shall"))
        self.ask(*[(f"rule sheet {{ yes; }} shall {shall};", "done")] * 3,
                 (f"rule sheet {{ yes; }} shall {shall};", "no many"))

    def test_undo_and_redo(self):
        self.ask(("undo ;", "no nothing"), ("redo ;", "no nothing"))
        self.assertTrue(self.console.answer("see (w) ;").startswith("done ("))
        kept = told(self.house)
        self.ask(("undo ;", "done"), ("moments ;", "0"), ("redo ;", "done"), ("redo ;", "no nothing"))
        self.assertEqual(told(self.house), kept)
        self.ask(("undo ;", "done"), ("moment (c) ;", "no lot"), ("mark m ;", "done"), ("now " + W_TEXT + ";", "no"),
                 ("undo", "no 4"), ("redo ;", "done"), ("undo ;", "done"), ("moment (a) ;", "done"),
                 ("redo ;", "no nothing"))

    def test_marks(self):
        self.ask(("since m ;", "no mark"), ("mark m ;", "done"), ("since m ;", "0"), ("moment (b) ;", "done"),
                 ("moment (b) ;", "done"), ("since m ;", "2"), ("mark since ;", "done"), ("undo ;", "done"),
                 ("undo ;", "done"), ("since since ;", "-2"), ("since m ;", "0"), ("mark mark ;", "done"),
                 ("since mark ;", "0"), ("since marks ;", "no mark"), ("mark shall ;", "done"), ("mark 7 ;", "no 5"))
        self.assertEqual(self.house.marks(), ["m", "mark", "shall", "since"])

    def test_states(self):
        self.ask(("state ;", "good"), ("moment (w) ;", "done"), ("state ;", "good"))
        console = Console(House(ENDED))
        lines = ("state ;", "moment () ;", "state;", "moment (w);", "state ;")
        self.assertEqual([console.answer(line) for line in lines], ["rank 1", "done", "rank 1", "done", "rank 0"])
        for book in books(320, 40):
            house = House(book)
            known = rank(book, house.state())
            self.assertEqual(Console(house).answer("state ;"), "good" if known is None else f"rank {known}")

    def test_now(self):
        self.ask((f"now {W_TEXT} ;", "no"), ("moment (w) ;", "done"), (f"now {W_TEXT} ;", "yes"))
        self.ask(("moment (a) ;", "done"),
                 (f"now {W_TEXT} ;", "no"), (f"now {W_EVER_TEXT} ;", "yes"), ("now sheet { yes; };", "yes"),
                 ("now sheet { yes; not 0; };", "no"), ("now sheet { letter w; not 0; yes; since 1 2; };", "yes"))
        # It may have any number of since lines.
        lines = " ".join(f"since {at} {at};" for at in range(200))
        self.ask((f"now sheet {{ letter w; {lines} }} ;", "no"))

    def test_gaps(self):
        self.ask(("\n moment\n\n(w)  ;\n", "done"), ("moments;", "1"), (" last ;", "(w)"), ("since\nm;", "no mark"))

    def test_wrong_places_by_hand(self):
        self.ask(("", "no 0"), (" \n ", "no 3"), ("moment", "no 6"), ("moment a", "no 7"), ("moment (a 7) ;", "no 10"),
                 ("moment (a) ; x", "no 13"), ("moment (a) ; $", "no 13"), ("$", "no 0"), ("move ;", "no 0"),
                 ("state 7 ;", "no 6"), ("Undo ;", "no 0"), ("undo;\t", "no 5"), ("7 ;", "no 0"), ("; undo ;", "no 0"),
                 ("since -1 ;", "no 6"), ("mark abcdefghijklm ;", "no 5"), ("mark ( ;", "no 5"), ("drop 007 ;", "no 6"),
                 ("drop 0 1 ;", "no 7"), ("see (a ;", "no 7"), ("momentsx ;", "no 0"), ("moment s ;", "no 7"),
                 ("now sheet { } ;", "no 12"), ("now sheet { not a; } ;", "no 16"), ("now sheet { yes; }", "no 18"),
                 ("rule sheet { yes; } sheet { yes; } ;", "no 20"), ("rule sheet { yes; } shall { yes; } ;", "no 26"),
                 ("rule sheet { yes; } shall sheet { yes; ;", "no 39"), ("rule sheet { yes; } ;", "no 20"),
                 ("now sheet { letter shall; shall; } ;", "no 26"))

    def test_long_numbers_at_and_behind_the_first_wrong_place(self):
        self.ask((f"undo {LONG} ;", "no 5"), (f"{LONG}", "no 0"), (f"moment ({LONG}) ;", "no 8"),
                 (f"drop - {LONG} ;", "no 5"), (f"drop 1 {LONG} ;", "no 7"), (f"state ; {LONG}", "no 8"),
                 (f"now sheet {{ yes {LONG}; not {LONG}; }} ;", "no 16"), (f"mark {LONG};", "no 5"),
                 (f"undo ; drop {LONG} ;", "no 7"), (f"now sheet {{ yes; }} {LONG} ;", "no 19"))

    def test_wrong_lines_change_nothing(self):
        self.assertTrue(self.console.answer("see (w);").startswith("done ("))
        self.ask(("undo;", "done"), ("mark m;", "done"))
        kept = told(self.house)
        for line in ("moment (a) ; ;", "see (w)", "undo; undo;", "redo ; $", "mark n n ;", "drop 0", "drop 0 ; 1",
                     f"rule {W_TEXT} shall sheet {{ letter a; }}", "moment (a c) ;", "see (a) ;", "drop 1 ;"):
            self.assertTrue(self.console.answer(line).startswith("no "))
        self.assertEqual(told(self.house), kept)
        self.ask(("redo ;", "done"))

    def test_wrong_places_by_the_words(self):
        right = ["moment (a w) ;", "moment () ;", "see (w) ;", "drop 12 ;", "undo ;", "redo ;", "mark m ;", "since m ;",
                 "state ;", "moments ;", "last ;", f"now {W_TEXT} ;",
                 f"rule {W_TEXT} shall sheet {{ letter a; not 0; }};", "now sheet { and 0 1; or 1 2; until 3 4; };"]
        found = {}
        for seed, line in enumerate(right):
            self.assertIsNone(first_wrong(line, LINE))
            for text in spoiled(line, seed, 200):
                house = House(ANSWER)
                house.do(("moment", W))
                house.undo()
                kept = told(house)
                wrong = first_wrong(text, LINE)
                answered = Console(house).answer(text)
                if wrong is None:
                    self.assertFalse(answered.startswith("no ") and answered[3:].isdigit(), text)
                else:
                    self.assertEqual(answered, f"no {wrong}", text)
                    self.assertEqual(told(house), kept)
                    self.assertEqual(house.redo(), 1)
                found[wrong is None] = True
        self.assertEqual(len(found), 2)

    def test_two_lines_mixed(self):
        chance = random.Random(321)
        right = ["moment (a) ;", "see (w) ;", "drop 1 ;", "undo ;", "mark m ;", "now sheet { yes; } ;",
                 "rule sheet { yes; } shall sheet { yes; } ;"]
        for _ in range(300):
            one, other = LEXEME.findall(chance.choice(right)), LEXEME.findall(chance.choice(right))
            text = " ".join(one[:chance.randrange(len(one) + 1)] + other[chance.randrange(len(other)):])
            wrong = first_wrong(text, LINE)
            if wrong is not None:
                self.assertEqual(Console(House(ANSWER)).answer(text), f"no {wrong}", text)

    def test_long_lines(self):
        self.ask((" " * 3990 + "undo ;", "no nothing"), ("undo ;" + "\n" * 3000 + "x", "no 3006"),
                 ("moment (" + "a " * 1900 + ") ;", "no lot"), ("now sheet { " + "yes; " * 700 + "} ;", "yes"))


class Houses(unittest.TestCase):
    def test_two_consoles_of_one_house(self):
        house = House(ANSWER)
        one, other = Console(house), Console(house)
        self.assertEqual(one.answer("moment (w) ;"), "done")
        self.assertEqual(other.answer("moments ;"), "1")
        self.assertEqual(other.answer("mark m ;"), "done")
        house.do(("moment", A))
        self.assertEqual(one.answer("since m ;"), "1")
        self.assertEqual(one.answer("last ;"), "(a)")
        self.assertEqual(other.answer("undo ;"), "done")
        self.assertEqual(house.history(), [W])
        house.undo()
        self.assertEqual(one.answer("undo ;"), "no nothing")
        self.assertEqual([console.answer("redo ;") for console in (one, other, one)], ["done", "done", "no nothing"])
        house.mark("n")
        self.assertEqual(other.answer("since n ;"), "0")

    def test_a_twin_is_another_house(self):
        house = House(ANSWER)
        console = Console(house)
        twin = house.twin()
        console.answer("moment (w) ;")
        self.assertEqual((house.history(), twin.history()), ([W], []))
        self.assertEqual(Console(twin).answer("moments ;"), "0")

    def test_the_acts_of_lines(self):
        house = House(ANSWER)
        console = Console(house)
        for line in ("moment (w) ;", "see () ;", f"rule {W_TEXT} shall sheet {{ letter a; }} ;", "drop 1 ;"):
            self.assertTrue(console.answer(line).startswith("done"))
        self.assertEqual(house.acts(), [("moment", W), ("see", NONE), ("rule", W_BEFORE, SHALL_A), ("drop", 1)])


if __name__ == "__main__":
    unittest.main()
