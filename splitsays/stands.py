"""Stands of a sheet, and walks of stands.

A stand is told by the truths of the letters, until and since lines: the other
lines follow. What one stand asks of the next one, and the next one of it, is
kept by a joint: two numbers, whose bits tell of until lines, and of since
lines, what they are at the first of the two moments, or at the second. So a
stand leads from one joint to another one, and may be followed by each stand
that begins with the joint with which it ends.
"""

from splitsays.tables import table_of, tables_of, ways_of

_FREE = ("letter", "until", "since")


class Stands:
    """All stands of a tidy sheet, in their order, by their numbers."""

    def __init__(self, lines):
        self.lines = lines
        self.free = [number for number, line in enumerate(lines) if line[0] in _FREE]
        self.many = 1 << len(self.free)
        self.true_at = _true_at(lines, self.free)
        self.untils = self.numbers("until")
        self.sinces = self.numbers("since")
        self.begins = []
        self.ends = []
        for stand in range(self.many):
            self.begins.append((self._asked(stand, self.untils), self._told(stand, self.sinces)))
            self.ends.append((self._told(stand, self.untils), self._asked(stand, self.sinces)))

    def numbers(self, word):
        """Return the list of the numbers of the letter, until or since lines, whichever the word tells."""
        return [number for number in self.free if self.lines[number][0] == word]

    def is_true(self, stand, number):
        """Return whether the line with a number is true in a stand."""
        return (self.true_at[number] >> stand) & 1 == 1

    def _told(self, stand, numbers):
        """Return the truths of these lines in a stand, as bits."""
        return sum([1 << at for at, number in enumerate(numbers) if self.is_true(stand, number)])

    def _asked(self, stand, numbers):
        """Return as bits the truths that these lines have at the moment that looks at this one."""
        return sum([1 << at for at, number in enumerate(numbers) if self._is_asked(stand, number)])

    def _is_asked(self, stand, number):
        """Return whether an until or since line is true at the moment that looks at this one."""
        _, one, other = self.lines[number]
        return self.is_true(stand, one) or (self.is_true(stand, other) and self.is_true(stand, number))

    def waiting(self, number):
        """Return as bits the stands in which an until or since line is true, but what it looks for is not."""
        return self.true_at[number] & ~self.true_at[self.lines[number][1]]

    def lot(self, stand):
        """Return the lot of a stand."""
        letters = [number for number in self.numbers("letter") if self.is_true(stand, number)]
        return tuple(sorted([self.lines[number][1] for number in letters]))


def _true_at(lines, free):
    """Return the dict of the stands at which each line is true, as the bits of a number."""
    known = {number: table_of(place, len(free)) for place, number in enumerate(free)}
    return tables_of(lines, list(range(len(lines))), known, ways_of(len(free)))
