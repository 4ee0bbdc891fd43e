"""Texts of rows and of lots."""

from splitsays.errors import BadText
from splitsays.rows import check_row
from splitsays.texts import Reader, written


def row_text(row):
    """Return the written text of a row, as it is."""
    first, left, middle, right = row
    sign = ["-"] if first < 0 else []
    told = ["row", "at"] + sign + [str(abs(first)), "{"]
    for word, lots in (("left", left), ("middle", middle), ("right", right)):
        told += [word] + [lexeme for lot in lots for lexeme in _lot_lexemes(lot)] + [";"]
    return written(told + ["}"])


def lot_text(lot):
    """Return the written text of a lot."""
    return written(_lot_lexemes(lot))


def _lot_lexemes(lot):
    """Return the list of the lexemes that tell a lot."""
    return ["("] + list(lot) + [")"]


def read_row(text):
    """Return the row of a text, as it is told."""
    reader = Reader(text)
    first, left, middle, right = _take_row(reader)
    reader.take_end()
    row = (int(first), left, middle, right)
    check_row(row)
    return row


def _take_row(reader):
    """Take what has the form of a row, and return its four parts, right or wrong, the first one as a string."""
    reader.take("row")
    reader.take("at")
    first = _take_first(reader)
    reader.take("{")
    left = _take_lots(reader, "left", 1)
    middle = _take_lots(reader, "middle", 0)
    right = _take_lots(reader, "right", 1)
    reader.take("}")
    return (first, left, middle, right)


def _take_first(reader):
    """Take a number, or one other than 0 behind a sign, and return both as a string."""
    if not reader.sees("-"):
        return reader.take_sort("number")
    reader.take("-")
    if reader.sees("0"):
        raise BadText(reader.place())
    return "-" + reader.take_sort("number")


def _take_lots(reader, word, least):
    """Take this word, at least so many lots and a semicolon, and return the tuple of the lots."""
    reader.take(word)
    lots = []
    while len(lots) < least or reader.sees("("):
        lots.append(take_lot(reader))
    reader.take(";")
    return tuple(lots)


def take_lot(reader):
    """Take what has the form of a lot, and return it, right or wrong."""
    reader.take("(")
    letters = []
    while not reader.sees(")"):
        letters.append(reader.take_sort("word"))
    reader.take(")")
    return tuple(letters)
