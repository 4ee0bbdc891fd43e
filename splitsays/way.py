"""The one way that draws an until line out of since lines."""

from splitsays.kinds import reached


class Way:
    """Makes since lines that touch no until line of one kind, whatever their members are made of."""

    def __init__(self, maker, until, one, other):
        self.maker = maker
        self.until = until
        self.one = one
        not_one = maker.negation(one)
        # The until line is at the moment before what it is at this one, or it is settled here.
        self.goes_on = maker.both(not_one, other)
        self.is_denied = maker.both(not_one, maker.negation(other))
        self.was = maker.either(one, maker.both(other, until))

    def since(self, one, other):
        """Return the number of what says the same as the since line of these two lines."""
        if self.until not in reached(self.maker.lines, one) + reached(self.maker.lines, other):
            return self.maker.since(one, other)
        return self._drawn(
            [self._settled(one, is_true) for is_true in (True, False)],
            [self._settled(other, is_true) for is_true in (True, False)],
        )

    def _drawn(self, ones, others):
        """Return the same, the two lines being told with yes in the place of the until line, and with no."""
        maker = self.maker
        # Begun since the until line was settled last, and broken since then.
        begun = [maker.since(x, maker.both(c, self.goes_on)) for x, c in zip(ones, others)]
        broken = [maker.since(maker.negation(c), self.goes_on) for c in others]
        whole = [maker.negation(number) for number in broken]
        at_end = maker.either(maker.both(self.one, begun[0]), maker.both(self.is_denied, begun[1]))
        kept = maker.either(maker.both(self.one, whole[0]), maker.both(self.is_denied, whole[1]))
        earlier = maker.since(at_end, maker.either(self.goes_on, kept))
        if_true, if_false = [maker.either(now, maker.both(earlier, all_along)) for now, all_along in zip(begun, whole)]
        return maker.either(maker.both(self.was, if_true), maker.both(maker.negation(self.was), if_false))

    def _settled(self, number, is_true):
        """Return the number of what a line says if the until line is true, or if it is not."""
        told = {}
        for at in reached(self.maker.lines, number):
            if at == self.until:
                told[at] = self.maker.constant(is_true)
            else:
                told[at] = self.maker.mixed(self.maker.lines[at], at, told)
        return told[number]
