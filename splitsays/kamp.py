"""Sheets that mean the same as claims, and claims that mean the same as sheets."""

from splitsays.maker import Maker
from splitsays.sayings import Sayings
from splitsays.sheets import tidy



def saying_of(claim):
    """Return a sheet that means the same as a claim with at most one free name."""
    maker = Maker(())
    return maker.sheet(Sayings(maker).number_of(claim))


def claim_of(sheet):
    """Return a claim that means the same as a sheet, with no other free name than t."""
    lines = tidy(sheet)
    return _claim_at(lines, len(lines) - 1, "t", 0)


def _claim_at(lines, number, name, level):
    """Return the claim that a line is true at the moment with a name, names of greater levels being free to use."""
    line = lines[number]
    if line[0] == "letter":
        return ("mark", line[1], name)
    if line[0] == "yes":
        return ("same", name, name)
    if line[0] in ("not", "and", "or"):
        return (line[0],) + tuple([_claim_at(lines, member, name, level) for member in line[1:]])
    return _look_at(lines, line, name, level)


def _look_at(lines, line, name, level):
    """Return the claim that an until or since line is true at the moment with a name."""
    word, one, other = line
    met = f"m{level}"
    claim = ("and", _order(word, name, met), _claim_at(lines, one, met, level + 1))
    if lines[other] != ("yes",):
        between = f"b{level}"
        is_between = ("and", _order(word, name, between), _order(word, between, met))
        kept = ("or", ("not", is_between), _claim_at(lines, other, between, level + 1))
        claim = ("and", claim, ("each", between, kept))
    return ("some", met, claim)


def _order(word, one, other):
    """Return the claim that from the one moment on one comes to the other if one looks as this word tells."""
    return ("before", one, other) if word == "until" else ("before", other, one)
