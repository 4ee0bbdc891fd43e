"""Telling lines anew so that looks back and looks ahead stand apart."""

from splitsays.kinds import reached_from
from splitsays.sheets import OPPOSITE, members, needed_by
from splitsays.way import Way


class Splitter:
    """Makes split lines of those of a maker.

    If it is given letters, only lines that need one of these are told anew: the
    others say something of each moment as letters do, whatever they look at.
    """

    def __init__(self, maker, letters=None):
        self.maker = maker
        self.letters = letters
        self.known = []

    def counts(self, number):
        """Return whether a line is one of those that are told anew."""
        if self.letters is None:
            return True
        while len(self.known) <= number:
            line = self.maker.lines[len(self.known)]
            if line[0] == "letter":
                self.known.append(line[1] in self.letters)
            else:
                self.known.append(any([self.known[member] for member in members(line)]))
        return self.known[number]

    def parted(self, number):
        """Return the number of a split line that says the same as the line with a number."""
        lines = self.maker.lines
        made = {}
        # Inner lines first: the members of each line are split when it is reached.
        for at in needed_by(lines, number):
            line = lines[at]
            if not self.counts(at):
                made[at] = at
            elif line[0] in OPPOSITE:
                made[at] = self.look(line[0], made[line[1]], made[line[2]])
            else:
                made[at] = self.maker.mixed(line, at, made)
        return made[number]

    def look(self, word, one, other):
        """Return the number of a split line that says the same as an until or since line of two split ones."""
        number = self.maker.look(word, one, other)
        inner = self._last_inner(word, number)
        while inner is not None:
            number = self._drawn_out(word, number, inner)
            inner = self._last_inner(word, number)
        return number

    def _last_inner(self, word, number):
        """Return the last line of the other word that lines of this word touch which a line needs, or None."""
        lines = self.maker.lines
        ahead = []
        for at in needed_by(lines, number):
            if lines[at][0] == word and self.counts(at):
                ahead.extend(list(members(lines[at])))
        inner = [at for at in reached_from(lines, ahead) if lines[at][0] == OPPOSITE[word] and self.counts(at)]
        # No other one of them needs the last one, as lines need only earlier ones.
        return max(inner, default=None)

    def _drawn_out(self, word, number, inner):
        """Return the number of what a line says if the lines of this word that it needs do not touch an inner one."""
        maker = self.maker
        way = Way(maker, inner, maker.lines[inner][1], maker.lines[inner][2])
        made = {}
        for at in needed_by(maker.lines, number):
            line = maker.lines[at]
            if not self.counts(at):
                made[at] = at
            elif line[0] == word:
                made[at] = way.look(made[line[1]], made[line[2]])
            else:
                made[at] = maker.mixed(line, at, made)
        return made[number]
