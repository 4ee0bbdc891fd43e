"""What all texts of the package have in common: how they are written, and how they are read."""

from splitsays.errors import BadText
from splitsays.lexemes import lexemes_ahead

_LINE_ENDS = ("{", "}", ";")
_NO_BLANK_BEHIND = ("-", "(")
_NO_BLANK_AHEAD = (")", ";")

# How many digits of the number of a line or a rule are read: one that has more is too great, however it goes on.
_ENOUGH = 40


def written(told):
    """Return the written text of a list of lexemes."""
    parts = []
    for lexeme, following in zip(told, told[1:] + [None]):
        parts.append(lexeme + _gap(lexeme, following))
    return "".join(parts)


def _gap(lexeme, following):
    """Return what stands between a lexeme and the following one, which may be None."""
    if lexeme in _LINE_ENDS:
        return "\n"
    if following is None or lexeme in _NO_BLANK_BEHIND or following in _NO_BLANK_AHEAD:
        return ""
    return " "


class Reader:
    """Takes the lexemes of a text one after another.

    The first one that is not what is to be taken is at the first wrong place:
    so a form must be read by it without any lexeme being looked at twice.
    """

    def __init__(self, text):
        found, wrong = lexemes_ahead(text)
        self.found = found
        self.ends = len(text) if wrong is None else wrong
        self.is_whole = wrong is None
        self.at = 0

    def place(self):
        """Return the place of the lexeme that comes, or where the lexemes end."""
        if self.at < len(self.found):
            return self.found[self.at][2]
        return self.ends

    def sees(self, lexeme):
        """Return whether this lexeme comes."""
        return self.at < len(self.found) and self.found[self.at][1] == lexeme

    def take(self, lexeme):
        """Take this lexeme."""
        if not self.sees(lexeme):
            raise BadText(self.place())
        self.at += 1

    def take_one(self, choices):
        """Take one of these lexemes, and return it."""
        for lexeme in choices:
            if self.sees(lexeme):
                self.at += 1
                return lexeme
        raise BadText(self.place())

    def take_sort(self, sort):
        """Take a lexeme of this sort, and return it."""
        if self.at == len(self.found) or self.found[self.at][0] != sort:
            raise BadText(self.place())
        self.at += 1
        return self.found[self.at - 1][1]

    def take_number(self):
        """Take a number, and return it, or one of as many digits as are enough to be too great."""
        return int(self.take_sort("number")[:_ENOUGH])

    def take_end(self):
        """Take it that nothing more comes."""
        if self.at < len(self.found) or not self.is_whole:
            raise BadText(self.place())
