"""Splitting sheets, and what split sheets say case by case."""

from splitsays.errors import TooGreat
from splitsays.kinds import reached, weight
from splitsays.maker import Maker
from splitsays.sheets import OPPOSITE, tidy
from splitsays.splitter import Splitter
from splitsays.tracks import truths_of


def split(sheet):
    """Return a split sheet that is alike to a sheet."""
    if weight(sheet) is None:
        raise TooGreat()
    lines = tidy(sheet)
    maker = Maker(lines)
    return maker.sheet(Splitter(maker).parted(len(lines) - 1))


def cases(sheet):
    """Return cases of a split sheet, a list of triples of sheets of the past, of now and of the future."""
    lines = tidy(sheet)
    maker = Maker(lines)
    last = len(lines) - 1
    found = reached(lines, last)
    many = {word: len([number for number in found if lines[number][0] == word]) for word in OPPOSITE}
    word = "until" if many["until"] <= many["since"] else "since"
    triples = []
    for now, looks, left in _ways(maker, last, [number for number in found if lines[number][0] in ("letter", word)]):
        past, future = (left, looks) if word == "until" else (looks, left)
        triples.append((maker.sheet(past), maker.sheet(now), maker.sheet(future)))
    return triples


def _ways(maker, number, asked):
    """Return the list of all ways in which the lines that are asked for may be true with that one which has a number.

    Each way is a triple of numbers: of what it says of letters, of what it
    says of other lines, and of what is left to be true besides. No two of the
    ways are true together.
    """
    ways = [(maker.yes(), maker.yes(), maker.settled(number, {}))]
    for at in asked:
        further = []
        for now, looks, left in ways:
            if at in reached(maker.lines, left):
                for is_true in (True, False):
                    said = at if is_true else maker.negation(at)
                    both = (maker.both(now, said), looks) if _is_letter(maker, at) else (now, maker.both(looks, said))
                    further.append(both + (maker.settled(left, {at: is_true}),))
            else:
                further.append((now, looks, left))
        ways = further
    return [way for way in ways if way[2] != maker.no()]


def _is_letter(maker, number):
    """Return whether the line with a number is a letter line."""
    return maker.lines[number][0] == "letter"


def left_of(sheet, row, moment):
    """Return a sheet of the future that is left of a split sheet at a moment of a row."""
    lines = tidy(sheet)
    maker = Maker(lines)
    last = len(lines) - 1
    letters_and_sinces = [number for number in reached(lines, last) if lines[number][0] in ("letter", "since")]
    truths = truths_of(lines, letters_and_sinces, row, moment)
    return maker.sheet(maker.settled(last, truths))
