"""Texts of sheets."""

from splitsays.sheets import MEMBERS, check_sheet
from splitsays.texts import Reader, written


def sheet_text(sheet):
    """Return the written text of a sheet."""
    told = ["sheet", "{"]
    for line in sheet:
        told += [str(member) for member in line] + [";"]
    return written(told + ["}"])


def read_sheet(text):
    """Return the sheet of a text."""
    reader = Reader(text)
    sheet = take_sheet(reader)
    reader.take_end()
    check_sheet(sheet)
    return sheet


def take_sheet(reader):
    """Take what has the form of a sheet, and return it, right or wrong."""
    reader.take("sheet")
    reader.take("{")
    lines = [_take_line(reader)]
    while not reader.sees("}"):
        lines.append(_take_line(reader))
    reader.take("}")
    return tuple(lines)


def _take_line(reader):
    """Take what has the form of a line, and its semicolon, and return the line."""
    word = reader.take_one(list(MEMBERS))
    line = [word]
    while len(line) < MEMBERS[word]:
        if word == "letter":
            line.append(reader.take_sort("word"))
        else:
            line.append(reader.take_number())
    reader.take(";")
    return tuple(line)
