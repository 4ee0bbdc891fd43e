"""Houses, which keep a book of rules."""

from splitsays.errors import BadAct, NothingDone, UnknownName
from splitsays.rules import begin
from splitsays.standing import Standing
from splitsays.words import is_word


class House:
    """A house with a book, the lots of its moments, acts that can be taken back, and marks."""

    def __init__(self, book):
        self._stands = Standing(book, (), begin(book))
        # Each act that was done, with how the house stood ahead of it and stands behind it.
        self._done = []
        self._undone = []
        self._marks = {}

    def book(self):
        """Return the book of the house now."""
        return self._stands.book

    def history(self):
        """Return the list of the lots of the moments that have gone by."""
        return list(self._stands.lots)

    def state(self):
        """Return the state of the book."""
        return self._stands.state

    def is_good(self):
        """Return whether this state is good."""
        return self._stands.is_good()

    def act_word(self, act):
        """Return the word with which an act, which may be anything, cannot be done now, or None."""
        return self._stands.word(act)

    def do(self, act):
        """Do an act, which may be anything, and return how many acts are done then."""
        word = self._stands.word(act)
        if word is not None:
            raise BadAct(word)
        after = self._stands.after(act)
        self._done.append((act, self._stands, after))
        self._undone.clear()
        self._stands = after
        return len(self._done)

    def undo(self):
        """Take the last act back, and return how many acts are done then."""
        if not self._done:
            raise NothingDone()
        step = self._done.pop()
        self._undone.append(step)
        self._stands = step[1]
        return len(self._done)

    def redo(self):
        """Do the act that was taken back last again, and return how many acts are done then."""
        if not self._undone:
            raise NothingDone()
        step = self._undone.pop()
        self._done.append(step)
        self._stands = step[2]
        return len(self._done)

    def acts(self):
        """Return the list of the acts done, each as it was passed."""
        return [step[0] for step in self._done]

    def mark(self, name):
        """Set a mark with a word."""
        self._marks[name] = len(self._stands.lots)

    def since(self, name):
        """Return how many moments more have gone by than at a mark; the name may be anything."""
        if not is_word(name) or name not in self._marks:
            raise UnknownName(name)
        return len(self._stands.lots) - self._marks[name]

    def marks(self):
        """Return the list of the names of the marks, ascending."""
        return sorted(self._marks)

    def twin(self):
        """Return a house that is as this one is now, and goes its own way from then on."""
        twin = House(self._stands.book)
        twin._stands = self._stands
        twin._done = list(self._done)
        twin._undone = list(self._undone)
        twin._marks = dict(self._marks)
        return twin
