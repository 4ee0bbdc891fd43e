"""Texts taken apart into lexemes."""

from splitsays.errors import BadText
from splitsays.words import LONGEST_WORD, is_digit, is_small_letter

_GAPS = " \n"
_SIGNS = "{}();-"


def lexemes(text):
    """Return the list of the lexemes of a text as tuples (sort, lexeme, place)."""
    found, wrong = lexemes_ahead(text)
    if wrong is not None:
        raise BadText(wrong)
    return found


def lexemes_ahead(text):
    """Return the lexemes up to where none begins, and this place, or None if there is no such."""
    found = []
    place = 0
    while place < len(text):
        if text[place] in _GAPS:
            place += 1
            continue
        sort = _sort_at(text, place)
        end = _end_of(text, place, sort)
        if sort is None or (sort == "word" and end - place > LONGEST_WORD):
            return found, place
        found.append((sort, text[place:end], place))
        place = end
    return found, None


def _sort_at(text, place):
    """Return the sort of a lexeme that begins with this character, or None."""
    sign = text[place]
    if is_small_letter(sign):
        return "word"
    if is_digit(sign):
        return "number"
    if sign in _SIGNS:
        return "sign"
    return None


def _end_of(text, place, sort):
    """Return the place behind the lexeme of this sort that begins at a place."""
    end = place + 1
    if sort == "word":
        while end < len(text) and (is_small_letter(text[end]) or is_digit(text[end])):
            end += 1
    # A 0 ahead would be an unnecessary zero, so it stands alone.
    if sort == "number" and text[place] != "0":
        while end < len(text) and is_digit(text[end]):
            end += 1
    return end
