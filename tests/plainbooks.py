"""Books of rules for the tests, and the words of the document on them told in the plainest way."""

import itertools
import random

from splitsays.kinds import is_past
from tests.plainsheets import Truths, needs

LETTER_W = ("letter", "w")
YES = ("yes",)
# w held at the moment before.
W_BEFORE = (LETTER_W, YES, ("not", 1), ("since", 0, 2))
SHALL_A = (("letter", "a"),)
NEVER = (YES, ("not", 0))
# If w held at the moment before, then a is to hold.
ANSWER = (("a", "b"), ("w",), ((W_BEFORE, SHALL_A),))


def sinces(sheet):
    return [number for number in sorted(needs(sheet, len(sheet) - 1)) if sheet[number][0] == "since"]


def lots_of(letters):
    return [tuple(sorted(lot)) for many in range(len(letters) + 1) for lot in itertools.combinations(letters, many)]


def moments_of(book):
    """All lots of letters of own and world, with the choice of the world and that of the doer."""
    own, world, _ = book
    return [(tuple(sorted(one + other)), one, other) for one in lots_of(world) for other in lots_of(own)]


def at_state(sheet, state, lot):
    """The truths of the needed lines of a sheet if those of its since lines are told."""
    known = dict(zip(sinces(sheet), state))
    for number in sorted(needs(sheet, len(sheet) - 1)):
        line = sheet[number]
        if number not in known:
            if line[0] == "letter":
                known[number] = line[1] in lot
            else:
                told = [known[member] for member in line[1:]]
                known[number] = {"yes": True, "not": not any(told), "and": all(told), "or": any(told)}[line[0]]
    return known


def next_state(book, state, lot):
    told = []
    for (was, _), own in zip(book[2], state):
        known = at_state(was, own, lot)
        told.append(tuple(known[was[at][1]] or (known[was[at][2]] and known[at]) for at in sinces(was)))
    return tuple(told)


def is_kept(book, state, lot):
    for (was, shall), own in zip(book[2], state):
        if at_state(was, own, ())[len(was) - 1] and not at_state(shall, (), lot)[len(shall) - 1]:
            return False
    return True


def state_after(book, lots):
    """The state to which lots lead, nothing having held ahead of them, by the words of S2.2."""
    told = []
    for was, _ in book[2]:
        truths = Truths(was, (0, ((),), tuple(lots), ((),)))
        told.append(tuple(truths.at(number, len(lots)) for number in sinces(was)))
    return tuple(told)


def come_to(book, start=None):
    """All states to which lots lead from the first one, whether they keep the book or not."""
    known, ahead = set(), [state_after(book, ()) if start is None else start]
    while ahead:
        state = ahead.pop()
        if state not in known:
            known.add(state)
            ahead += [next_state(book, state, lot) for lot, _, _ in moments_of(book)]
    return known


class Game:
    """The moves at some states, and how the world's choices end, by the words of S10.2."""

    def __init__(self, book, states):
        self.book = book
        self.moves = {state: {} for state in states}
        for state, found in self.moves.items():
            for lot, world, own in moments_of(book):
                moves = found.setdefault(world, {})
                if is_kept(book, state, lot):
                    moves[own] = next_state(book, state, lot)

    def good(self):
        """The greatest set at each of whose states each choice of the world can be answered by one that stays in it."""
        good = set(self.moves)
        while True:
            kept = {state for state in good
                    if all(any(later in good for later in own.values()) for own in self.moves[state].values())}
            if kept == good:
                return good
            good = kept

    def ranks(self):
        """The ranks of the states that are not good."""
        good = self.good()
        ranks, rank = {}, 0
        while len(ranks) + len(good) < len(self.moves):
            found = [state for state in self.moves if state not in good and state not in ranks and any(
                all(later in ranks for later in own.values()) for own in self.moves[state].values())]
            ranks.update({state: rank for state in found})
            rank += 1
        return ranks


def a_was(chance, letters, sinces_left):
    """A sheet of the past with at most so many since lines."""
    lines = [("letter", letter) for letter in letters] + [YES]
    own = []
    for _ in range(chance.randint(0, sinces_left)):
        numbers = [chance.randrange(len(lines)) for _ in range(2)]
        for _ in range(chance.randint(0, 2)):
            lines.append(chance.choice((("not", numbers[0]), ("and", *numbers), ("or", *numbers))))
            numbers[chance.randrange(2)] = len(lines) - 1
        lines.append(("since", *numbers))
        own.append(len(lines) - 1)
    if not own:
        return tuple(lines[len(letters):]) if chance.random() < 0.7 else NEVER
    last = own[0]
    for number in own[1:]:
        lines.append((chance.choice(("and", "or")), last, number))
        last = len(lines) - 1
    if chance.random() < 0.3:
        lines.append(("not", last))
    return tuple(lines)


def a_shall(chance, letters):
    lines = [("letter", letter) for letter in letters] + [YES]
    for _ in range(chance.randint(0, 4)):
        word = chance.choice(("not", "and", "or"))
        lines.append((word, *[chance.randrange(len(lines)) for _ in range(1 if word == "not" else 2)]))
    if chance.random() < 0.5 and letters:
        lines.append(("not", chance.randrange(len(letters))))
    return tuple(lines) if lines[-1] != YES or not letters else tuple(lines[:1])


def a_book(chance, most_rules=4, most_sinces=8):
    own, world = chance.choice((
        ((), ("w",)), (("a",), ()), (("a",), ("w",)), (("a", "b"), ("v", "w")), (("b",), ("a", "w")),
        (("a", "c"), ("b",)), ((), ()),
    ))
    rules = []
    left = most_sinces
    for _ in range(chance.randint(0, most_rules)):
        was = a_was(chance, own + world, min(left, chance.randint(0, 3)))
        if is_past(was):
            left -= len(sinces(was))
            rules.append((was, a_shall(chance, own + world)))
    return (own, world, tuple(rules))


def books(seed, many, **limits):
    chance = random.Random(seed)
    return [a_book(chance, **limits) for _ in range(many)]
