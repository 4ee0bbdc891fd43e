"""What is left over of a sheet of the future when lots go by."""

from splitsays.kinds import reached
from splitsays.maker import Maker
from splitsays.sheets import tidy
from splitsays.tables import table_of, tables_of, ways_of

# Of so many until lines there are few enough ways to look at all of them.
_FEW = 8


def left_over(sheet, lots):
    """Return a sheet of the future that is left over by a tuple of lots of a sheet of the future."""
    lines = tidy(sheet)
    maker = Maker(lines)
    number = len(lines) - 1
    for lot in lots:
        number = _told_shorter(maker, _left_by(maker, number, lot))
    return maker.sheet(number)


def _left_by(maker, number, lot):
    """Return the number of what is true exactly if a line was true at the moment before, which had this lot."""
    told = {}
    for at in reached(maker.lines, number):
        line = maker.lines[at]
        if line[0] == "until":
            one, other = [_with_lot_known(maker, member, lot) for member in line[1:]]
            told[at] = maker.either(one, maker.both(other, at))
        else:
            told[at] = maker.mixed(line, at, told)
    return told[number]


def _with_lot_known(maker, number, lot):
    """Return the number of what a line says at a moment that has this lot."""
    letters = [at for at in reached(maker.lines, number) if maker.lines[at][0] == "letter"]
    return maker.settled(number, {at: maker.lines[at][1] in lot for at in letters})


def _told_shorter(maker, number):
    """Return the number of what says the same as a line of until lines, told by way of all ways if this is shorter.

    So what is left over does not grow on and on with the lots.
    """
    found = reached(maker.lines, number)
    untils = [at for at in found if maker.lines[at][0] == "until"]
    if len(untils) > _FEW:
        return number
    known = {at: table_of(place, len(untils)) for place, at in enumerate(untils)}
    tables = tables_of(maker.lines, found, known, ways_of(len(untils)))
    made = _told_by_ways(maker, tables[number], untils, {})
    return made if len(reached(maker.lines, made)) < len(found) else number


def _told_by_ways(maker, table, untils, known):
    """Return the number of what has this table of the ways in which these until lines may be true."""
    if not untils:
        return maker.constant(table == 1)
    key = (len(untils), table)
    if key not in known:
        half = 1 << (len(untils) - 1)
        parts = [(table >> half), table & ((1 << half) - 1)]
        made = [_told_by_ways(maker, told, untils[:-1], known) for told in parts]
        known[key] = maker.choice(untils[-1], made[0], made[1])
    return known[key]
