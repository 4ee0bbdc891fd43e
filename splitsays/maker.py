"""Lines that are made one after another, each of them once."""

from splitsays.kinds import reached
from splitsays.sheets import part


class Maker:
    """Lines of a tidy sheet, and those that are made of them, by their numbers.

    What plainly says the same as shorter lines is not made.
    """

    def __init__(self, lines):
        self.lines = list(lines)
        self.known = {line: number for number, line in enumerate(lines)}

    def number_of(self, line):
        """Return the number of this very line."""
        if line not in self.known:
            self.known[line] = len(self.lines)
            self.lines.append(line)
        return self.known[line]

    def sheet(self, number):
        """Return the sheet that says what the line with a number says."""
        return part(tuple(self.lines), number)

    def yes(self):
        """Return the number of what is always true."""
        return self.number_of(("yes",))

    def no(self):
        """Return the number of what is never true."""
        return self.number_of(("not", self.yes()))

    def constant(self, is_true):
        """Return the number of what is always true, or of what never is."""
        return self.yes() if is_true else self.no()

    def is_constant(self, number):
        """Return whether this is the number of what is always true, or of what never is."""
        return number in (self.yes(), self.no())

    def negation(self, number):
        """Return the number of what says that a line is not true."""
        line = self.lines[number]
        return line[1] if line[0] == "not" else self.number_of(("not", number))

    def both(self, one, other):
        """Return the number of what says that both lines are true."""
        if one == other or other == self.yes():
            return one
        if one == self.yes():
            return other
        if self.no() in (one, other) or self._are_opposite(one, other):
            return self.no()
        return self.number_of(("and", one, other))

    def either(self, one, other):
        """Return the number of what says that one of two lines is true."""
        if one == other or other == self.no():
            return one
        if one == self.no():
            return other
        if self.yes() in (one, other) or self._are_opposite(one, other):
            return self.yes()
        return self.number_of(("or", one, other))

    def mixed(self, line, number, told):
        """Return the number of what the line with a number says if those that it mixes are told anew."""
        if line[0] == "not":
            return self.negation(told[line[1]])
        if line[0] == "and":
            return self.both(told[line[1]], told[line[2]])
        if line[0] == "or":
            return self.either(told[line[1]], told[line[2]])
        return number

    def settled(self, number, truths):
        """Return the number of what a line says if lines to which not, and, or lead from it have these truths."""
        told = {}
        for at in reached(self.lines, number):
            if at in truths:
                told[at] = self.constant(truths[at])
            else:
                told[at] = self.mixed(self.lines[at], at, told)
        return told[number]

    def choice(self, asked, if_true, if_false):
        """Return the number of what says one thing where a line is true, and another one where it is not."""
        if if_true == if_false:
            return if_true
        if self.is_constant(if_true):
            return self._beside(asked, if_true, if_false)
        if self.is_constant(if_false):
            return self._beside(self.negation(asked), if_false, if_true)
        return self.either(self.both(asked, if_true), self.both(self.negation(asked), if_false))

    def _beside(self, asked, constant, other):
        """Return the number of what says a constant where a line is true, and another thing where it is not."""
        if constant == self.yes():
            return self.either(asked, other)
        return self.both(self.negation(asked), other)

    def look(self, word, one, other):
        """Return the number of an until or since line, or of what it says if its first member is settled."""
        # Each moment has an earlier one and a later one: what is always true is so just beside it.
        if self.is_constant(one):
            return one
        return self.number_of((word, one, other))

    def _are_opposite(self, one, other):
        """Return whether the one line is the other one denied."""
        return ("not", one) == self.lines[other] or ("not", other) == self.lines[one]
