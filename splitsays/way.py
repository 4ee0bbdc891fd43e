"""The one way that draws an until line out of since lines, and a since line out of until lines."""

from splitsays.kinds import reached
from splitsays.sheets import OPPOSITE


class Way:
    """Makes lines that touch no line of one kind, whatever their members are made of.

    What is said here of drawing an until line out of since lines holds
    mirrored of drawing a since line out of until lines.
    """

    def __init__(self, maker, inner, one, other):
        """Take the until line with the number inner, and what its two members say."""
        self.maker = maker
        self.inner = inner
        self.word = OPPOSITE[maker.lines[inner][0]]
        self.one = one
        # At a deciding moment it is settled what the until line is at the moment
        # before; at each other one it goes on to be what it is.
        self.decides = maker.either(one, maker.negation(other))
        self.goes_on = maker.negation(self.decides)
        self.is_denied = maker.both(self.decides, maker.negation(one))
        self.was = maker.either(one, maker.both(other, inner))

    def look(self, one, other):
        """Return the number of what says the same as the since line of these two lines."""
        lines = self.maker.lines
        if self.inner not in reached(lines, one) and self.inner not in reached(lines, other):
            return self.maker.look(self.word, one, other)
        return self._drawn(
            [self.maker.settled(one, {self.inner: is_true}) for is_true in (True, False)],
            [self.maker.settled(other, {self.inner: is_true}) for is_true in (True, False)],
        )

    def _drawn(self, ones, others):
        """Return the same, the two lines being told with yes in the place of the until line, and with no."""
        maker = self.maker
        # Begun since the until line was settled last, and broken since then.
        begun = [self._plain(x, maker.both(c, self.goes_on)) for x, c in zip(ones, others)]
        whole = [maker.negation(self._plain(maker.negation(c), self.goes_on)) for c in others]
        earlier = self._plain(self._at_deciding(begun), maker.either(self.goes_on, self._at_deciding(whole)))
        if_true, if_false = [maker.either(now, maker.both(earlier, all_along)) for now, all_along in zip(begun, whole)]
        return maker.choice(self.was, if_true, if_false)

    def _plain(self, one, other):
        """Return the number of a line that does not touch the until line."""
        return self.maker.look(self.word, one, other)

    def _at_deciding(self, numbers):
        """Return the number of what says, at deciding moments alone, the first or the second line, as it is decided."""
        maker = self.maker
        if numbers[0] == numbers[1]:
            return maker.both(self.decides, numbers[0])
        return maker.either(maker.both(self.one, numbers[0]), maker.both(self.is_denied, numbers[1]))
