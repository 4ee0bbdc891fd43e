"""Sheets for the tests, and the words of the document on sheets told in the plainest way."""

import random

from tests.plain import lot_of

K = (("letter", "a"), ("letter", "b"), ("yes",), ("until", 1, 2), ("and", 0, 3), ("since", 4, 2))
YES = (("yes",),)
LETTER_A = (("letter", "a"),)
LETTER_B = (("letter", "b"),)
# a until b, since b, and with lines that are not needed, told twice, in another sequence.
LOOSE = (
    ("letter", "c"), ("letter", "b"), ("letter", "a"), ("letter", "b"), ("until", 3, 0), ("not", 2), ("not", 2),
    ("since", 6, 1), ("until", 0, 0), ("or", 7, 5), ("and", 9, 9), ("since", 8, 4),
)


def a_sheet(chance, many, letters=("a", "b"), words=("not", "and", "or", "until", "since", "until", "since")):
    """A sheet of so many lines, each of which is a letter, yes or of one of the words."""
    lines = []
    while len(lines) < many:
        at = len(lines)
        if at == 0 or chance.random() < 0.25:
            lines.append(("letter", chance.choice(letters)) if chance.random() < 0.9 else ("yes",))
            continue
        word = chance.choice(words)
        numbers = [max(chance.randrange(at), chance.randrange(at)) for _ in range(1 if word == "not" else 2)]
        lines.append((word, *numbers))
    return tuple(lines)


def sheets(seed, many, lines=8, **limits):
    chance = random.Random(seed)
    return [a_sheet(chance, chance.randint(1, lines), **limits) for _ in range(many)]


def needs(sheet, number):
    """The numbers of the lines that a line needs, as a set."""
    found = {number}
    if sheet[number][0] != "letter":
        for member in sheet[number][1:]:
            found |= needs(sheet, member)
    return found


def tree(sheet, number=None):
    """What a line says, as a tree of words; two lines are built alike if their trees are equal."""
    line = sheet[-1 if number is None else number]
    if line[0] == "letter":
        return line
    return (line[0], *[tree(sheet, member) for member in line[1:]])


class Truths:
    """Whether lines are true, by the words of S2.2: each until looks for a later moment, each since for an earlier."""

    def __init__(self, sheet, row):
        self.sheet, self.row, self.known = sheet, row, {}
        first, left, middle, right = row
        # From these moments on to the sides all truths come round with the row's rounds.
        self.low = first - (len(sheet) + 1) * len(left)
        self.high = first + len(middle) + (len(sheet) + 1) * len(right)

    def at(self, number, moment):
        if (number, moment) not in self.known:
            self.known[number, moment] = self.found(self.sheet[number], moment)
        return self.known[number, moment]

    def found(self, line, moment):
        word = line[0]
        if word == "letter":
            return line[1] in lot_of(self.row, moment)
        if word == "yes":
            return True
        if word == "not":
            return not self.at(line[1], moment)
        if word == "and":
            return self.at(line[1], moment) and self.at(line[2], moment)
        if word == "or":
            return self.at(line[1], moment) or self.at(line[2], moment)
        if word == "until":
            looked = range(moment + 1, max(moment, self.high) + len(self.row[3]) + 1)
        else:
            looked = range(moment - 1, min(moment, self.low) - len(self.row[1]) - 1, -1)
        for found in looked:
            if self.at(line[1], found):
                return True
            if not self.at(line[2], found):
                return False
        return False


def is_true(sheet, row, moment):
    return Truths(sheet, row).at(len(sheet) - 1, moment)


def chained(many, words=("since", "until"), start=K):
    """A deep sheet of about so many lines, put together again and again."""
    lines = list(start)
    a, yes = start.index(("letter", "a")), start.index(("yes",))
    while len(lines) < many:
        lines.append((words[len(lines) % len(words)], len(lines) - 1, yes))
        lines.append(("and", a, len(lines) - 1))
        lines.append(("not", len(lines) - 1))
    return tuple(lines)
