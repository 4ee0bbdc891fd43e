"""Sheets: how they are judged, and made from each other."""

from splitsays.errors import BadSheet
from splitsays.words import is_number, is_word

# How many members a line with this word has.
MEMBERS = {"letter": 2, "yes": 1, "not": 2, "and": 3, "or": 3, "until": 3, "since": 3}

# The words of lines that look at the moment itself alone.
MIXING = ("not", "and", "or")

OPPOSITE = {"until": "since", "since": "until"}


def check_sheet(value):
    """Raise BadSheet with the path of the first wrong part if value, which may be anything, is no sheet."""
    if not isinstance(value, tuple) or len(value) == 0:
        raise BadSheet(())
    for number, line in enumerate(value):
        path = _wrong_part(line, number)
        if path is not None:
            raise BadSheet((number,) + path)


def _wrong_part(line, number):
    """Return the path of the first wrong part of what should be the line with a number, or None."""
    if not isinstance(line, tuple) or len(line) == 0:
        return ()
    word = line[0]
    if not isinstance(word, str) or word not in MEMBERS or len(line) != MEMBERS[word]:
        return ()
    if word == "letter":
        return None if is_word(line[1]) else (1,)
    for at in range(1, len(line)):
        if not is_number(line[at]) or line[at] >= number:
            return (at,)
    return None


def members(line):
    """Return the tuple of the numbers that a line has."""
    return () if line[0] == "letter" else line[1:]


def needed(sheet):
    """Return the ascending list of the numbers of the needed lines of a sheet."""
    return needed_by(sheet, len(sheet) - 1)


def needed_by(sheet, number):
    """Return the ascending list of the numbers of the lines that the line with a number needs."""
    return needed_by_all(sheet, [number])


def needed_by_all(sheet, numbers):
    """Return the ascending list of the numbers of the lines that some line with one of these numbers needs."""
    last = max(numbers, default=-1)
    wanted = [False] * (last + 1)
    for number in numbers:
        wanted[number] = True
    for at in range(last, -1, -1):
        if wanted[at]:
            for member in members(sheet[at]):
                wanted[member] = True
    return [at for at, is_wanted in enumerate(wanted) if is_wanted]


def letters_in(sheet):
    """Return the ascending list of the letters of the needed lines of a sheet, each once."""
    return sorted({sheet[number][1] for number in needed(sheet) if sheet[number][0] == "letter"})


def part(sheet, number):
    """Return the part of a sheet for the line with a number."""
    places = {}
    lines = []
    for at in needed_by(sheet, number):
        places[at] = len(lines)
        lines.append(_told_anew(sheet[at], places))
    return tuple(lines)


def _told_anew(line, places):
    """Return a line with the numbers that stand under its own ones."""
    if line[0] == "letter":
        return line
    return (line[0],) + tuple([places[member] for member in line[1:]])


def tidy(sheet):
    """Return the tidy sheet of a sheet."""
    lines, _ = told_once(sheet, needed(sheet))
    return lines


def told_once(sheet, numbers):
    """Return the lines with these numbers, no two of them equal, and the dict of where each one stands.

    The numbers are an ascending list, and all that their lines need is among them.
    """
    known = {}
    places = {}
    for number in numbers:
        line = _told_anew(sheet[number], places)
        places[number] = known.setdefault(line, len(known))
    return tuple(known), places


def put(word, one, other):
    """Return two sheets put together by one of the words and, or, until, since."""
    many = len(one)
    lines = [_shifted_by(line, many) for line in other]
    return one + tuple(lines) + ((word, many - 1, many + len(other) - 1),)


def _shifted_by(line, many):
    """Return a line with numbers that are greater by so many."""
    if line[0] == "letter":
        return line
    return (line[0],) + tuple([member + many for member in line[1:]])


def denied(sheet):
    """Return the denied sheet of a sheet."""
    return sheet + (("not", len(sheet) - 1),)


def mirrored_sheet(sheet):
    """Return the sheet with until in the place of since, and since in that of until."""
    return tuple([(OPPOSITE.get(line[0], line[0]),) + line[1:] for line in sheet])
