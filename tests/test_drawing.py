"""[S6.1] to [S6.6], [0.2] and the interface: splitsays/drawing.py."""

import random
import unittest

from splitsays.canbe import alike
from splitsays.drawing import drawn, judge_drawn, left_to_draw
from splitsays.errors import BadRow
from splitsays.kinds import is_split, touched
from splitsays.sheets import check_sheet, denied, letters_in, mirrored_sheet, needed, part, put, tidy
from splitsays.truths import truth_row
from tests.plain import STRANGE, nested, rows
from tests.plainsheets import K, LETTER_A, LETTER_B, LOOSE, YES, chained, needs, sheets, tree

OPPOSITE = {"until": "since", "since": "until"}
UNTIL = LETTER_A + LETTER_B + (("until", 0, 1),)
SINCE = LETTER_A + LETTER_B + (("since", 0, 1),)


def of_word(sheet, number, word):
    return [at for at in sorted(needs(sheet, number)) if sheet[at][0] == word]


def drawable(chance, untils=4, sinces=4, letters=("a", "b"), mixed=3):
    """A sheet of at most so many until and since lines, no until line of which needs a since line."""
    lines = [("letter", letter) for letter in letters] + [("yes",)] * chance.randint(0, 1)

    def number():
        return max(chance.randrange(len(lines)), chance.randrange(len(lines)))

    for word, many in (("until", untils), ("since", sinces)):
        for _ in range(chance.randint(1, many)):
            for _ in range(chance.randint(0, mixed)):
                mixing = chance.choice(("not", "and", "or"))
                lines.append((mixing, *[number() for _ in range(1 if mixing == "not" else 2)]))
            lines.append((word, number(), number()))
    return tuple(lines)


def cases(seed, many, **limits):
    """So many triples (sheet, k, j) with which drawn may be asked, some of them mirrored."""
    chance = random.Random(seed)
    found = []
    while len(found) < many:
        sheet = drawable(chance, **limits)
        untils = of_word(sheet, len(sheet) - 1, "until")
        if untils:
            turn = mirrored_sheet(sheet) if len(found) % 3 == 2 else sheet
            # Lines behind it are not needed by it, so the sheet as a whole may say anything.
            found.append((turn + YES if len(found) % 2 else turn, len(sheet) - 1, chance.choice(untils)))
    return found


def plainly_touched_trees(sheet, number):
    return [tree(sheet, at) for at in touched(sheet, number)]


class Drawn(unittest.TestCase):
    def check(self, sheet, k, j, seed=0, many=8, exactly=False):
        """The four properties of S6.5, and that it is alike in some rows."""
        made = drawn(sheet, k, j)
        self.assertIsNone(check_sheet(made))
        word, opposite = sheet[k][0], sheet[j][0]
        last = len(made) - 1
        ours = of_word(made, last, word)
        for number in ours:
            self.assertNotIn(tree(sheet, j), plainly_touched_trees(made, number))
        known = [tree(sheet, at) for at in of_word(sheet, k, opposite)]
        for number in of_word(made, last, opposite):
            self.assertIn(tree(made, number), known)
        self.assertLessEqual(len(ours), 5 * len(of_word(sheet, k, word)))
        given = part(sheet, k)
        self.assertLessEqual(set(letters_in(made)), set(letters_in(given)))
        for row in rows(seed, many):
            self.assertEqual(truth_row(made, row), truth_row(given, row), (sheet, k, j, row))
        if exactly:
            self.assertIsNone(alike(made, given))
        self.assertIsNone(judge_drawn(sheet, k, j, made))
        self.assertEqual(drawn(sheet, k, j), made)
        return made

    def test_the_sheet_of_the_document(self):
        self.assertIs(is_split(self.check(K, 5, 3, exactly=True)), True)
        self.assertIs(is_split(self.check(mirrored_sheet(K), 5, 3, exactly=True)), True)

    def test_the_members_of_a_since_line(self):
        # The until line as the first member, as the second one, as both, denied and mixed.
        tails = [(("since", 3, 2),), (("since", 2, 3),), (("since", 3, 3),), (("not", 3), ("since", 4, 2)),
                 (("not", 3), ("since", 2, 4)), (("not", 3), ("since", 3, 4)), (("not", 3), ("since", 4, 3)),
                 (("and", 3, 2), ("or", 3, 0), ("since", 4, 5)), (("or", 3, 2), ("and", 3, 0), ("since", 4, 5)),
                 (("or", 3, 2), ("not", 3), ("or", 5, 0), ("since", 4, 6))]
        for tail in tails:
            sheet = LETTER_A + LETTER_B + (("letter", "c"), ("until", 0, 1)) + tail
            for given in (sheet, mirrored_sheet(sheet)):
                self.assertIs(is_split(self.check(given, len(given) - 1, 3, exactly=True)), True)

    def test_the_until_line_itself_as_the_first_member_comes_cheap(self):
        sheet = LETTER_A + LETTER_B + (("letter", "c"), ("until", 0, 1), ("since", 3, 2))
        self.assertEqual(len(of_word(drawn(sheet, 4, 3), len(drawn(sheet, 4, 3)) - 1, "since")), 2)

    def test_until_lines_with_settled_members(self):
        yes_and_no = LETTER_A + LETTER_B + YES + (("not", 2),)
        for one in range(4):
            for other in range(4):
                sheet = yes_and_no + (("until", one, other), ("and", 4, 0), ("or", 4, 1))
                for members in ((4, 2), (5, 6), (1, 4), (4, 4), (5, 3)):
                    given = sheet + (("since", *members),)
                    self.check(given, 7, 4, exactly=True)

    def test_an_until_line_of_another_one(self):
        # until(a, until(b, a)): the inner one comes under since lines, the outer one does not stay there.
        sheet = LETTER_A + LETTER_B + (("until", 1, 0), ("until", 0, 2), ("and", 3, 1), ("since", 4, 0))
        made = self.check(sheet, 5, 3, exactly=True)
        pairs = left_to_draw(made)
        self.assertTrue(pairs)
        self.assertEqual({tree(made, j) for _, j in pairs}, {tree(sheet, 2)})

    def test_an_until_line_that_is_not_touched(self):
        # It is needed within a greater one alone: then the part is drawn as it is.
        sheet = YES + LETTER_A + LETTER_B + (("until", 1, 2), ("until", 3, 1), ("since", 4, 2), ("not", 5))
        self.assertEqual(self.check(sheet, 5, 3), part(sheet, 5))
        mirrored = mirrored_sheet(sheet)
        self.assertEqual(self.check(mirrored, 5, 3), part(mirrored, 5))
        # Also if it could be told in a shorter way.
        sheet = YES + LETTER_A + (("until", 1, 0), ("until", 2, 1), ("not", 3), ("not", 4), ("and", 5, 0))
        sheet += (("and", 5, 0), ("or", 7, 6), ("since", 8, 8))
        self.assertEqual(self.check(sheet, 9, 2), part(sheet, 9))

    def test_an_until_line_that_only_an_inner_since_line_touches(self):
        sheet = UNTIL + (("since", 2, 1), ("since", 3, 0), ("and", 4, 1), ("since", 5, 3))
        self.assertIs(is_split(self.check(sheet, 6, 2, many=200)), True)

    def test_lines_that_are_built_alike(self):
        # The until line stands there twice; none of both may be touched.
        sheet = UNTIL + LETTER_A + LETTER_B + (("until", 3, 4), ("and", 2, 5), ("since", 6, 5))
        for j in (2, 5):
            self.assertIs(is_split(self.check(sheet, 7, j, exactly=True)), True)

    def test_two_since_lines_share_what_they_have_in_common(self):
        sheet = UNTIL + (("not", 2), ("since", 2, 1), ("since", 3, 0), ("or", 4, 3), ("and", 5, 2), ("since", 6, 7))
        self.check(sheet, 8, 2, many=200)

    def test_many(self):
        for seed, (sheet, k, j) in enumerate(cases(120, 240)):
            made = self.check(sheet, k, j, seed)
            words = [line[0] for line in tidy(put("and", made, part(sheet, k)))]
            if seed % 3 == 0 and words.count("until") + words.count("since") <= 6:
                self.assertIsNone(alike(made, part(sheet, k)))

    def test_from_what_was_drawn_before(self):
        steps = 0
        for seed, (sheet, k, j) in enumerate(cases(121, 60)):
            made = self.check(sheet, k, j, seed, many=3)
            for _ in range(4):
                pairs = [(at, by) for at, by in left_to_draw(made)
                         if not any(of_word(made, number, made[at][0])
                                    for number in of_word(made, at, made[by][0]))]
                if not pairs:
                    break
                steps += 1
                made = self.check(made, *pairs[0], seed, many=3)
        self.assertGreater(steps, 30)

    def test_drawing_by_the_outermost_ones_first_leaves_fewer(self):
        # S6.6: of those that are left none is new, and the one that was drawn by is gone.
        for sheet, k, _ in cases(122, 60, untils=3, sinces=2):
            before = {tree(sheet, by): by for at, by in left_to_draw(sheet) if at in needs(sheet, k)}
            for told, j in before.items():
                if not any(told != other and holds(other, told) for other in before):
                    made = self.check(sheet, k, j, many=2)
                    after = {tree(made, by) for _, by in left_to_draw(made)}
                    within = {tree(sheet, at) for at in of_word(sheet, j, sheet[j][0])}
                    self.assertLessEqual(after, (set(before) | within) - {told})

    def test_greatest_parts_that_callers_ask_for(self):
        chance = random.Random(123)
        for _ in range(6):
            lines = list(LETTER_A + LETTER_B + (("letter", "c"),))
            for word in ("until", "since"):
                for _ in range(4):
                    many = len(lines)
                    lines.append(("not", chance.randrange(many)))
                    lines.append((chance.choice(("and", "or")), many - 1, chance.randrange(many)))
                    lines.append((chance.choice(("and", "or")), many + 1, chance.randrange(many)))
                    lines.append((word, many + 2, chance.randrange(many)))
            sheet = tuple(lines)
            self.check(sheet, len(sheet) - 1, of_word(sheet, len(sheet) - 1, "until")[-1])


def holds(told, inner):
    """Whether a tree stands within another one."""
    return told == inner or any(isinstance(part, tuple) and holds(part, inner) for part in told[1:])


class Judged(unittest.TestCase):
    def check(self, sheet, k, j, value, fault):
        for _ in range(2):
            self.assertEqual(judge_drawn(sheet, k, j, value), fault)
        turned = value if fault == ("form",) else mirrored_sheet(value)
        self.assertEqual(judge_drawn(mirrored_sheet(sheet), k, j, turned), fault)

    def test_the_example(self):
        self.assertEqual(judge_drawn(K, 5, 3, K), ("touch", 5))

    def test_no_sheet(self):
        for value in STRANGE + [(), 0, "", "yes", list(K), (("not", 0),), K + (("not", 6),), K + (("until", 0, True),),
                                BadRow(()), nested(K, 40, list)]:
            kept = repr(value)
            self.check(K, 5, 3, value, ("form",))
            self.assertEqual(repr(value), kept)

    def test_touching(self):
        until = UNTIL + (("since", 2, 1),)
        self.check(until, 3, 2, until, ("touch", 3))
        # Through other lines, and whichever member it is; built alike is enough.
        other = LETTER_B + YES + LETTER_A + (("until", 2, 0), ("not", 3), ("or", 0, 4), ("since", 1, 5))
        self.check(until, 3, 2, other, ("touch", 6))
        # The first one is told, and lines that are not needed do not count.
        self.check(until, 3, 2, until + (("since", 2, 2), ("and", 4, 3)), ("touch", 3))
        self.check(until, 3, 2, until + (("since", 2, 2), ("and", 4, 4)), ("touch", 4))
        self.check(until, 3, 2, until + YES, None)
        # Within a greater until line it is not touched.
        self.check(until + (("until", 2, 2), ("since", 4, 3)), 5, 2, UNTIL + (("until", 2, 2), ("since", 3, 1)), None)
        # Nor by until lines, nor by the last line, if this is no since line.
        self.check(until, 3, 2, UNTIL + (("not", 2),), None)

    def test_strange_ones(self):
        until = UNTIL + (("since", 2, 1),)
        strange = LETTER_A + LETTER_B + (("until", 1, 0), ("until", 0, 1), ("until", 1, 1), ("or", 2, 3), ("or", 5, 4))
        self.check(until, 3, 2, strange, ("strange", 2))
        self.check(until, 3, 2, strange[:5] + (("or", 3, 4),), ("strange", 4))
        self.check(until, 3, 2, strange[:4], None)
        # What the sheet has, but the line does not need, is strange, too.
        more = UNTIL + (("until", 1, 0), ("since", 2, 1), ("and", 3, 4))
        self.check(more, 4, 2, LETTER_A + LETTER_B + (("until", 1, 0),), ("strange", 2))
        self.check(more[:4] + (("since", 2, 3),), 4, 2, LETTER_A + LETTER_B + (("until", 1, 0),), None)
        # It must be built alike, not only alike.
        twice = LETTER_A + LETTER_B + (("and", 0, 0), ("until", 2, 1))
        self.check(until, 3, 2, twice, ("strange", 3))

    def test_too_many(self):
        until = UNTIL + (("since", 2, 1),)

        def of(many):
            sheet = LETTER_A + LETTER_B
            for at in range(many):
                sheet += (("since", len(sheet) - 1, 0),)
            return sheet

        self.check(until, 3, 2, of(5), None)
        self.check(until, 3, 2, of(6), ("many", 6))
        self.check(until, 3, 2, of(40), ("many", 40))
        self.check(until, 3, 2, of(40) + YES, None)
        # Lines that are built alike count each, in the one and in the other.
        self.check(until, 3, 2, LETTER_A + (("since", 0, 0),) * 6 + (
            ("and", 1, 2), ("and", 3, 7), ("and", 4, 8), ("and", 5, 9), ("and", 6, 10)), ("many", 6))
        two = UNTIL + (("since", 1, 1), ("since", 2, 3))
        self.check(two, 4, 2, of(10), None)
        self.check(two, 4, 2, of(11), ("many", 11))
        self.check(two + (("since", 0, 0),), 4, 2, of(11), ("many", 11))
        twins = UNTIL + (("since", 1, 1), ("since", 1, 1), ("and", 3, 4), ("since", 2, 5))
        self.check(twins, 6, 2, of(15), None)
        self.check(twins, 6, 2, of(16), ("many", 16))

    def test_the_first_fault_is_told(self):
        until = UNTIL + (("since", 2, 1),)
        bad = LETTER_A + LETTER_B + (("until", 1, 1), ("until", 0, 1)) + (("since", 0, 0),) * 8 + (("since", 3, 3),)
        whole = bad + tuple(("and", at, len(bad) - 2 if at == 2 else len(bad) - 3 + at) for at in range(2, 12))
        self.assertIsNone(check_sheet(whole))
        self.check(until, 3, 2, whole[:len(bad)] + (("and", 2, len(bad) - 1),), ("touch", len(bad) - 1))
        strange = bad[:-1] + (("and", 2, 4),) + tuple(("and", 4 + at, 11 + at) for at in range(1, 8))
        self.check(until, 3, 2, strange, ("strange", 2))
        many = bad[:-1] + (("and", 3, 4),) + tuple(("and", 4 + at, 11 + at) for at in range(1, 8))
        self.check(until, 3, 2, many, ("many", 8))

    def test_what_it_says_is_not_looked_at(self):
        for value in (YES, LETTER_A, SINCE, (("letter", "z"),)):
            self.assertIsNone(judge_drawn(K, 5, 3, value))

    def test_against_the_words(self):
        found = {}
        for (sheet, k, j), value in zip(cases(124, 200), sheets(125, 200, lines=10)):
            for told in (value, part(sheet, k), put("or", value, part(sheet, j)), drawn(sheet, k, j)):
                fault = judge_drawn(sheet, k, j, told)
                self.assertEqual(fault, self.plain_fault(sheet, k, j, told))
                found[fault and fault[0]] = True
        self.assertLessEqual({None, "touch", "strange"}, set(found))

    def plain_fault(self, sheet, k, j, value):
        word, opposite = sheet[k][0], sheet[j][0]
        last = len(value) - 1
        for number in of_word(value, last, word):
            if tree(sheet, j) in plainly_touched_trees(value, number):
                return ("touch", number)
        known = [tree(sheet, at) for at in of_word(sheet, k, opposite)]
        for number in of_word(value, last, opposite):
            if tree(value, number) not in known:
                return ("strange", number)
        many = len(of_word(value, last, word))
        return ("many", many) if many > 5 * len(of_word(sheet, k, word)) else None


class Left(unittest.TestCase):
    def test_by_hand(self):
        self.assertEqual(left_to_draw(K), [(5, 3)])
        self.assertEqual(left_to_draw(mirrored_sheet(K)), [(5, 3)])
        for sheet in (YES, LETTER_A, UNTIL, SINCE, put("and", UNTIL, SINCE), LOOSE + YES, K + YES, denied(UNTIL)):
            self.assertEqual(left_to_draw(sheet), [])

    def test_pairs_ascend(self):
        sheet = UNTIL + (("since", 0, 1), ("or", 2, 3), ("since", 4, 2), ("until", 4, 5), ("since", 6, 2))
        sheet += (("and", 7, 5),)
        self.assertEqual(left_to_draw(sheet), [(5, 2), (6, 3), (6, 5), (7, 2), (7, 6)])

    def test_only_needed_lines(self):
        sheet = UNTIL + (("since", 2, 1), ("since", 2, 0), ("not", 4))
        self.assertEqual(left_to_draw(sheet), [(4, 2)])

    def test_only_what_is_touched(self):
        sheet = UNTIL + (("until", 2, 1), ("since", 3, 0), ("since", 4, 1))
        self.assertEqual(left_to_draw(sheet), [(4, 3)])

    def test_against_the_words(self):
        for sheet in sheets(126, 300, lines=14):
            pairs = [(k, j) for k in needed(sheet) if sheet[k][0] in OPPOSITE for j in touched(sheet, k)
                     if sheet[j][0] == OPPOSITE[sheet[k][0]]]
            self.assertEqual(left_to_draw(sheet), sorted(pairs))
            self.assertIs(left_to_draw(sheet) == [], is_split(sheet))

    def test_lists_are_new_each_time(self):
        one = left_to_draw(K)
        self.assertIs(type(one), list)
        one.append((7, 7))
        self.assertEqual(left_to_draw(K), [(5, 3)])

    def test_great_sheets(self):
        sheet = chained(19990)
        self.assertGreater(len(left_to_draw(sheet)), 3000)
        self.assertEqual(left_to_draw(chained(19990, ("since",), start=LETTER_A + YES)), [])
        # Thousands of since lines, each of which reaches all lines ahead of it.
        sheet = LETTER_A + LETTER_B
        while len(sheet) < 19990:
            sheet += (("or", len(sheet) - 1, 0), ("since", len(sheet), 1), ("and", len(sheet), len(sheet) + 1))
        self.assertEqual(left_to_draw(sheet), [])


if __name__ == "__main__":
    unittest.main()
