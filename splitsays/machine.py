"""Sheets of the past as machines that read lots."""

from splitsays.sheets import needed, part
from splitsays.tracks import truths_of


class Machine:
    """What a sheet of the past says after each history; its states are tuples of the truths of its since lines."""

    def __init__(self, sheet):
        self.lines = part(sheet, len(sheet) - 1)
        self.sinces = [number for number in needed(self.lines) if self.lines[number][0] == "since"]

    def state_behind(self, left):
        """Return the state right after a left round that goes on for ever."""
        truths = truths_of(self.lines, self.sinces, (0, left, (), ((),)), 0)
        return tuple([truths[number] for number in self.sinces])

    def following(self, state, lot):
        """Return the state at the next moment."""
        truths = self._truths(state, lot)
        told = []
        for number in self.sinces:
            _, one, other = self.lines[number]
            told.append(truths[one] or (truths[other] and truths[number]))
        return tuple(told)

    def after(self, state, lots):
        """Return the state to which lots lead, one after another."""
        for lot in lots:
            state = self.following(state, lot)
        return state

    def says(self, state):
        """Return whether the sheet is true at a moment with a state."""
        # Letters of the moment itself play no role, so any lot does.
        return self.is_true(state, ())

    def is_true(self, state, lot):
        """Return whether the sheet, which may also look at now, is true at a moment with a state and a lot."""
        return self._truths(state, lot)[-1]

    def _truths(self, state, lot):
        """Return the list of the truths of all lines at a moment with a state and a lot."""
        known = {number: is_true for number, is_true in zip(self.sinces, state)}
        truths = []
        for number, line in enumerate(self.lines):
            truths.append(known[number] if number in known else _truth(line, truths, lot))
        return truths


def _truth(line, truths, lot):
    """Return whether a line that looks at the moment itself alone is true, those of earlier lines being known."""
    if line[0] == "letter":
        return line[1] in lot
    if line[0] == "yes":
        return True
    if line[0] == "not":
        return not truths[line[1]]
    if line[0] == "and":
        return truths[line[1]] and truths[line[2]]
    return truths[line[1]] or truths[line[2]]
