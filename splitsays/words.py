"""What a word, an integer and a number are."""

LONGEST_WORD = 12


def is_small_letter(sign):
    """Return whether a string of one character is one from a to z."""
    return "a" <= sign <= "z"


def is_digit(sign):
    """Return whether a string of one character is one from 0 to 9."""
    return "0" <= sign <= "9"


def is_word(value):
    """Return whether value, which may be anything, is a word."""
    if not isinstance(value, str) or not 1 <= len(value) <= LONGEST_WORD:
        return False
    if not is_small_letter(value[0]):
        return False
    return all([is_small_letter(sign) or is_digit(sign) for sign in value])


def is_integer(value):
    """Return whether value, which may be anything, is an integer."""
    return isinstance(value, int) and not isinstance(value, bool)


def is_number(value):
    """Return whether value, which may be anything, is an integer of at least 0."""
    return is_integer(value) and value >= 0
