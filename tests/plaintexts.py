"""First wrong places by the words of S1.6, read off tables of what may follow what."""

import random
import re

LEXEME = re.compile(r"[a-z][a-z0-9]*|0|[1-9][0-9]*|[{}();-]")

LONG = "9" * 5000

# Each state: what may come there, and the state behind it; "end" is that of a whole text.
ROW = {
    "begin": [("row", "at")], "at": [("at", "place")], "place": [("number", "open"), ("-", "minus")],
    "minus": [("not 0", "open")], "open": [("{", "left")], "left": [("left", "left lot")],
    "left lot": [("(", "in left")], "in left": [("word", "in left"), (")", "left lots")],
    "left lots": [("(", "in left"), (";", "middle")],
    "middle": [("middle", "middle lots")], "middle lots": [("(", "in middle"), (";", "right")],
    "in middle": [("word", "in middle"), (")", "middle lots")],
    "right": [("right", "right lot")], "right lot": [("(", "in right")],
    "in right": [("word", "in right"), (")", "right lots")], "right lots": [("(", "in right"), (";", "close")],
    "close": [("}", "end")], "end": [],
}

_LINE = [("letter", "name"), ("yes", "semicolon"), ("not", "second")] + [
    (word, "first") for word in ("and", "or", "until", "since")]
SHEET = {
    "begin": [("sheet", "open")], "open": [("{", "one line")], "one line": _LINE,
    "lines": _LINE + [("}", "end")], "name": [("word", "semicolon")], "first": [("number", "second")],
    "second": [("number", "semicolon")], "semicolon": [(";", "lines")], "end": [],
}


def fits(told, lexeme):
    if told == "word":
        return lexeme[0].isalpha()
    if told == "number":
        return lexeme[0].isdigit()
    if told == "not 0":
        return lexeme[0].isdigit() and lexeme != "0"
    return told == lexeme


def first_wrong(text, table):
    """The first wrong place of a text, or None if it has the form of the table."""
    state, place = "begin", 0
    while True:
        while place < len(text) and text[place] in " \n":
            place += 1
        if place == len(text):
            return None if state == "end" else place
        found = LEXEME.match(text, place)
        if found is None or (found.group()[0].isalpha() and len(found.group()) > 12):
            return place
        following = [behind for told, behind in table[state] if fits(told, found.group())]
        if not following:
            return place
        (state,) = following
        place = found.end()


def spoiled(text, seed, many):
    """So many texts that come of a text by a few changes of its lexemes, its gaps and its signs."""
    chance = random.Random(seed)
    own = LEXEME.findall(text)
    others = own + ["0", "7", "10", "-", ";", "(", ")", "{", "}", "a", "row", "left", "until", "not", "letter", "yes",
                    "$", "\t", "A", "abcdefghijklm", "12abcdefghijklm", LONG]
    made = []
    for _ in range(many):
        told = list(own)
        for _ in range(chance.choice((0, 1, 1, 1, 2))):
            at = chance.randrange(len(told) + 1)
            told[at:at + chance.choice((0, 1, 1, 2))] = chance.choices(others, k=chance.choice((0, 1, 1, 2)))
        if chance.random() < 0.3:
            told = told[:chance.randrange(len(told) + 1)]
        made.append("".join(lexeme + chance.choice((" ", " ", "\n", "  \n ", "")) for lexeme in told))
    return made
