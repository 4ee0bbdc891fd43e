"""Lines that mean the same as claims."""

from splitsays.claims import BINDING, claims_in, free_names
from splitsays.kinds import reached
from splitsays.sheets import OPPOSITE, needed_by
from splitsays.splitter import Splitter


class Sayings:
    """Makes lines that mean the same as claims with at most one free name.

    Three letters more tell of each moment whether it is earlier than that of
    the free name, the same, or later. They are no words, so they are not
    letters of any claim; each level of some within some has its own ones.
    """

    def __init__(self, maker, level=0):
        self.maker = maker
        self.level = level
        self.letters = (f"{level} earlier", f"{level} same", f"{level} later")

    def number_of(self, claim):
        """Return the number of the line that is true at the moment of a claim's free name exactly if the claim is."""
        word = claim[0]
        if word == "mark":
            return self.maker.number_of(("letter", claim[1]))
        if word == "same":
            return self.maker.yes()
        if word == "before":
            return self.maker.no()
        if word == "not":
            return self.maker.negation(self.number_of(claim[1]))
        if word == "and":
            return self.maker.both(self.number_of(claim[1]), self.number_of(claim[2]))
        if word == "or":
            return self.maker.either(self.number_of(claim[1]), self.number_of(claim[2]))
        if word == "each":
            return self.maker.negation(self.number_of(("some", claim[1], ("not", claim[2]))))
        apart = _parts_apart(claim[2], (claim[1],))
        return self._by_ways(claim, [part for at, part in enumerate(apart) if part not in apart[:at]], [])

    def _by_ways(self, claim, apart, truths):
        """Return the number for a claim with some if the first parts that stand apart have these truths."""
        maker = self.maker
        if len(truths) == len(apart):
            told = self._settled(claim[2], (claim[1],), list(zip(apart, truths)))
            return self._at_some_moment(Sayings(maker, self.level + 1).number_of(told))
        asked = self.number_of(apart[len(truths)])
        if maker.is_constant(asked):
            return self._by_ways(claim, apart, truths + [asked == maker.yes()])
        if_true, if_false = [self._by_ways(claim, apart, truths + [is_true]) for is_true in (True, False)]
        return maker.choice(asked, if_true, if_false)

    def _settled(self, claim, bound, settled):
        """Return a claim in which nothing speaks of the free name: parts are settled, comparisons told by letters."""
        if claim[0] in ("before", "same"):
            return self._marked(claim, bound)
        if _stands_apart(claim, bound):
            return [_constant(is_true, bound) for part, is_true in settled if part == claim][0]
        inner = bound + (claim[1],) if claim[0] in BINDING else bound
        places = claims_in(claim)
        return tuple([self._settled(member, inner, settled) if at in places else member
                      for at, member in enumerate(claim)])

    def _marked(self, claim, bound):
        """Return a comparison, or a mark that tells the same of the bound name that it compares with the free one."""
        word, one, other = claim
        if one in bound and other in bound:
            return claim
        if one not in bound and other not in bound:
            return _constant(word == "same", bound)
        earlier, same, later = self.letters
        if word == "same":
            return ("mark", same, one if one in bound else other)
        return ("mark", earlier, one) if one in bound else ("mark", later, other)

    def _at_some_moment(self, number):
        """Return the number of what says that at some moment a line with the three letters is true."""
        maker = self.maker
        splitter = Splitter(maker, self.letters)
        parts = splitter.parted(number)
        earlier, same, later = self.letters
        was = splitter.look("since", self._placed(parts, splitter, earlier, {"since": earlier}), maker.yes())
        will_be = splitter.look("until", self._placed(parts, splitter, later, {"until": later}), maker.yes())
        both_sides = {"since": earlier, "until": later}
        found = [self._placed(told, splitter, same, both_sides) for told in (was, parts, will_be)]
        return maker.either(found[0], maker.either(found[1], found[2]))

    def _placed(self, number, splitter, here, beside):
        """Return the number of what a line says where just one of the three letters holds.

        Beside tells by the words since and until which of them holds at all
        moments at which such lines look; lines of other words stay.
        """
        lines = self.maker.lines
        told = {}
        for at in reached(lines, number):
            line = lines[at]
            if not splitter.counts(at):
                told[at] = at
            elif line[0] == "letter":
                told[at] = self.maker.constant(line[1] == here)
            elif line[0] in beside:
                told[at] = self._wholly_placed(at, splitter, beside[line[0]])
            else:
                told[at] = self.maker.mixed(line, at, told)
        return told[number]

    def _wholly_placed(self, number, splitter, here):
        """Return the number of what a line says if the same one of the three letters holds at all moments."""
        lines = self.maker.lines
        told = {}
        for at in needed_by(lines, number):
            line = lines[at]
            if not splitter.counts(at):
                told[at] = at
            elif line[0] == "letter":
                told[at] = self.maker.constant(line[1] == here)
            elif line[0] in OPPOSITE:
                told[at] = self.maker.look(line[0], told[line[1]], told[line[2]])
            else:
                told[at] = self.maker.mixed(line, at, told)
        return told[number]


def _parts_apart(claim, bound):
    """Return the list of the greatest parts of a claim, marks or such with some or each, that have no bound name."""
    if _stands_apart(claim, bound):
        return [claim]
    inner = bound + (claim[1],) if claim[0] in BINDING else bound
    return [part for at in claims_in(claim) for part in _parts_apart(claim[at], inner)]


def _stands_apart(claim, bound):
    """Return whether a claim is a mark, or begins with some or each, and has no bound name free."""
    return claim[0] in ("mark",) + BINDING and not any([name in bound for name in free_names(claim)])


def _constant(is_true, bound):
    """Return a claim that is always true, or one that never is, and has no name that is not bound."""
    return ("same" if is_true else "before", bound[0], bound[0])
