"""Lines that are made one after another, each of them once."""


class Maker:
    """Lines of a tidy sheet, and those that are made of them, by their numbers.

    What plainly says the same as shorter lines is not made.
    """

    def __init__(self, lines):
        self.lines = list(lines)
        self.known = {line: number for number, line in enumerate(lines)}

    def number_of(self, line):
        """Return the number of this very line."""
        if line not in self.known:
            self.known[line] = len(self.lines)
            self.lines.append(line)
        return self.known[line]

    def yes(self):
        """Return the number of what is always true."""
        return self.number_of(("yes",))

    def no(self):
        """Return the number of what is never true."""
        return self.number_of(("not", self.yes()))

    def constant(self, is_true):
        """Return the number of what is always true, or of what never is."""
        return self.yes() if is_true else self.no()

    def negation(self, number):
        """Return the number of what says that a line is not true."""
        line = self.lines[number]
        return line[1] if line[0] == "not" else self.number_of(("not", number))

    def both(self, one, other):
        """Return the number of what says that both lines are true."""
        if one == other or other == self.yes():
            return one
        if one == self.yes():
            return other
        if self.no() in (one, other) or self._are_opposite(one, other):
            return self.no()
        return self.number_of(("and", one, other))

    def either(self, one, other):
        """Return the number of what says that one of two lines is true."""
        if one == other or other == self.no():
            return one
        if one == self.no():
            return other
        if self.yes() in (one, other) or self._are_opposite(one, other):
            return self.yes()
        return self.number_of(("or", one, other))

    def mixed(self, line, number, told):
        """Return the number of what the line with a number says if those that it mixes are told anew."""
        if line[0] == "not":
            return self.negation(told[line[1]])
        if line[0] == "and":
            return self.both(told[line[1]], told[line[2]])
        if line[0] == "or":
            return self.either(told[line[1]], told[line[2]])
        return number

    def since(self, one, other):
        """Return the number of a since line, or of what it says if its first member is settled."""
        # Each moment has an earlier one: what is always true was so just before.
        if one in (self.yes(), self.no()):
            return one
        return self.number_of(("since", one, other))

    def _are_opposite(self, one, other):
        """Return whether the one line is the other one denied."""
        return ("not", one) == self.lines[other] or ("not", other) == self.lines[one]
