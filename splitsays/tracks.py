"""Truths of the lines of a sheet in a row.

The truths of a line are told as rows are, with a truth in the place of each
lot. Such a track is in one form: so it is short, however deep the sheet is,
unless the truths themselves change often.
"""

from math import lcm

from splitsays.rows import lot_at, lots_between, one_form, turned
from splitsays.sheets import members, needed_by_all, tidy, told_once


def track_of(sheet, row):
    """Return the track of a sheet in a row."""
    lines = tidy(sheet)
    found = None
    for track in tracks(lines, row):
        found = track
    return found


def truths_of(sheet, numbers, row, moment):
    """Return the dict of whether the lines of a sheet with these numbers are true at a moment of a row."""
    lines, places = told_once(sheet, needed_by_all(sheet, numbers))
    found = [lot_at(track, moment) for track in tracks(lines, row)]
    return {number: found[places[number]] for number in numbers}


def tracks(lines, row):
    """Yield the track of each of these lines in a row, line by line."""
    last_uses = {}
    for number, line in enumerate(lines):
        for member in members(line):
            last_uses[member] = number
    known = {}
    for number, line in enumerate(lines):
        known[number] = _track(line, known, row)
        yield known[number]
        # Sheets may be long: what no later line asks for is not kept.
        for used in members(line) + (number,):
            if last_uses.get(used, number) == number:
                known.pop(used, None)


def _track(line, known, row):
    """Return the track of a line, those of its members being known."""
    word = line[0]
    if word == "letter":
        return one_form(_each(row, lambda lot: line[1] in lot))
    if word == "yes":
        return (0, (True,), (), (True,))
    one = known[line[1]]
    if word == "not":
        return _each(one, lambda truth: not truth)
    other = known[line[2]]
    if word == "since":
        return one_form(_since(one, other))
    if word == "until":
        return one_form(turned(_since(turned(one), turned(other))))
    return _both(one, other) if word == "and" else either(one, other)


def _each(row, told):
    """Return a row with what is told of each lot in its place."""
    first, left, middle, right = row
    return (first, tuple([told(lot) for lot in left]), tuple([told(lot) for lot in middle]),
            tuple([told(lot) for lot in right]))


def _both(one, other):
    """Return the track that is true where both are."""
    start, end, before, behind = _frame(one, other)
    ones = lots_between(one, start - before, end + behind)
    others = lots_between(other, start - before, end + behind)
    return one_form(_cut([x and y for x, y in zip(ones, others)], start, before, behind))


def either(one, other):
    """Return the track that is true where one of the two is."""
    start, end, before, behind = _frame(one, other)
    ones = lots_between(one, start - before, end + behind)
    others = lots_between(other, start - before, end + behind)
    return one_form(_cut([x or y for x, y in zip(ones, others)], start, before, behind))


def next_moment(track, moment, wanted):
    """Return the nearest later moment with the wanted truth, or None."""
    many = len(track[1]) + len(track[2]) + len(track[3])
    # What comes later is seen whole in so many moments, but for the left
    # side: if it has no such truth in one round, it has none at all.
    for start in (moment + 1, max(moment + 1, track[0])):
        for at, found in enumerate(lots_between(track, start, start + many)):
            if found == wanted:
                return start + at
    return None


def _since(one, other):
    """Return a track, not in one form, that is true if one was and other has been since."""
    start, end, before, behind = _frame(one, other)
    # On the right the truth comes round after one round of the members' truths.
    ones = lots_between(one, start - before, end + 2 * behind)
    others = lots_between(other, start - before, end + 2 * behind)
    now = False
    # A since must have begun: on the left the first go, which begins with not
    # true, finds the truth with which the round begins each time.
    for x, y in zip(ones[:before], others[:before]):
        now = x or (y and now)
    told = []
    for x, y in zip(ones, others):
        told.append(now)
        now = x or (y and now)
    return _cut(told, start, before, behind)


def _frame(one, other):
    """Return where the middle of two tracks taken together begins and ends, and how long both their rounds are."""
    edges = []
    for first, left, middle, right in (one, other):
        # A track that comes round as a whole has no edge, wherever it is told from.
        if middle or left != right:
            edges += [first, first + len(middle)]
    before = lcm(len(one[1]), len(other[1]))
    behind = lcm(len(one[3]), len(other[3]))
    return min(edges, default=0), max(edges, default=0), before, behind


def _cut(told, start, before, behind):
    """Return the row that begins its middle at start, of these lots with rounds of such lengths at both ends."""
    return (start, tuple(told[:before]), tuple(told[before:-behind]), tuple(told[-behind:]))
