"""How a house stands: its book, the lots of its moments, and what can be done then."""

from splitsays.game import Game
from splitsays.machine import Machine
from splitsays.rows import is_lot
from splitsays.rules import answer_in, is_shall, is_was, keeps, next_of
from splitsays.words import is_number

# How many members an act with this word has.
_MEMBERS = {"moment": 2, "see": 2, "rule": 3, "drop": 2}

_MOST_MOMENTS = 60
_MOST_RULES = 4
_MOST_SINCES = 8


class Standing:
    """A book, a tuple of lots, and the state to which they lead; an act leads to another one."""

    def __init__(self, book, lots, state, known=None):
        self.book = book
        self.lots = lots
        self.state = state
        self.known = known

    def game(self):
        """Return what can be kept of the book, worked out once."""
        if self.known is None:
            self.known = Game(self.book)
        return self.known

    def is_good(self):
        """Return whether the state is good."""
        game = self.game()
        return game.ranks[game.number_of(self.state)] is None

    def word(self, act):
        """Return the word with which an act, which may be anything, cannot be done, or None."""
        if not isinstance(act, tuple) or len(act) == 0 or not isinstance(act[0], str):
            return "form"
        if act[0] not in _MEMBERS or len(act) != _MEMBERS[act[0]]:
            return "form"
        if act[0] == "moment":
            return self._word_of_moment(act[1])
        if act[0] == "see":
            return self._word_of_see(act[1])
        if act[0] == "rule":
            return self._word_of_rule(act[1], act[2])
        return None if is_number(act[1]) and act[1] < len(self.book[2]) else "number"

    def _word_of_moment(self, lot):
        """Return the word with which a moment with this lot cannot go by, or None."""
        if not _is_lot_of(lot, self.book[0] + self.book[1]):
            return "lot"
        if not keeps(self.book, self.state, lot):
            return "breaks"
        return self._word_of_many()

    def _word_of_see(self, lot):
        """Return the word with which a choice of the world cannot be answered, or None."""
        if not _is_lot_of(lot, self.book[1]):
            return "lot"
        if answer_in(self.game(), self.state, lot) is None:
            return "stuck"
        return self._word_of_many()

    def _word_of_many(self):
        """Return the word with which no moment more can go by, or None."""
        return "many" if len(self.lots) >= _MOST_MOMENTS else None

    def _word_of_rule(self, was, shall):
        """Return the word with which a rule cannot be put behind the others, or None."""
        own, world, rules = self.book
        if not is_was(was, own + world):
            return "was"
        if not is_shall(shall, own + world):
            return "shall"
        many = sum([len(part) for part in self.state]) + len(Machine(was).sinces)
        return "many" if len(rules) >= _MOST_RULES or many > _MOST_SINCES else None

    def after(self, act):
        """Return how the house stands after an act that can be done."""
        if act[0] == "moment":
            return self._after_lot(act[1])
        if act[0] == "see":
            return self._after_lot(tuple(sorted(act[1] + answer_in(self.game(), self.state, act[1]))))
        own, world, rules = self.book
        if act[0] == "drop":
            at = act[1]
            return Standing((own, world, rules[:at] + rules[at + 1:]), self.lots, self.state[:at] + self.state[at + 1:])
        machine = Machine(act[1])
        state = machine.after(machine.state_behind(((),)), self.lots)
        return Standing((own, world, rules + (act[1:],)), self.lots, self.state + (state,))

    def _after_lot(self, lot):
        """Return how the house stands when a moment with this lot has gone by."""
        return Standing(self.book, self.lots + (lot,), next_of(self.book, self.state, lot), self.known)


def _is_lot_of(value, letters):
    """Return whether value, which may be anything, is a lot of some of these letters."""
    return is_lot(value) and all([letter in letters for letter in value])
