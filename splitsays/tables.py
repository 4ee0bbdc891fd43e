"""Truth tables: numbers whose bits tell, way by way, whether a line is true.

Of so many things that may be true or not each way has a number: its bits tell
which of them are.
"""


def ways_of(many):
    """Return the table of what is true in all ways of so many things."""
    return (1 << (1 << many)) - 1


def table_of(place, many):
    """Return the table of the thing that has this place among so many."""
    table = ((1 << (1 << place)) - 1) << (1 << place)
    width = 2 << place
    while width < 1 << many:
        table |= table << width
        width = width << 1
    return table


def tables_of(lines, numbers, known, whole):
    """Return the dict of the tables of these lines, those of some being known, and whole being that of yes.

    The numbers ascend, and what a line mixes that is not known is among them.
    """
    tables = {number: table for number, table in known.items()}
    for number in numbers:
        if number not in tables:
            tables[number] = _mixed(lines[number], tables, whole)
    return tables


def _mixed(line, tables, whole):
    """Return the table of a line that mixes others, or that of yes."""
    if line[0] == "yes":
        return whole
    if line[0] == "not":
        return whole ^ tables[line[1]]
    if line[0] == "and":
        return tables[line[1]] & tables[line[2]]
    return tables[line[1]] | tables[line[2]]
