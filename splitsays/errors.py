"""The errors of the package.

Each one keeps what it was made with as its arguments, so that nothing is
turned into a message here: what is kept may be anything.
"""


class SayError(ValueError):
    """What is told is wrong, or cannot be done."""


class BadRow(SayError):
    """What should be a row is none."""

    def __init__(self, path):
        self.path = tuple(path)


class BadSheet(SayError):
    """What should be a sheet is none."""

    def __init__(self, path):
        self.path = tuple(path)


class BadClaim(SayError):
    """What should be a claim is none."""

    def __init__(self, path):
        self.path = tuple(path)


class BadRules(SayError):
    """What should be a book of rules is none."""

    def __init__(self, path):
        self.path = tuple(path)


class BadText(SayError):
    """A text is wrong at a place."""

    def __init__(self, place):
        self.place = place


class TooGreat(SayError):
    """A sheet has too great a weight."""


class BadAct(SayError):
    """An act cannot be done; the word tells why."""

    def __init__(self, word):
        self.word = word


class NothingDone(SayError):
    """There is no act to take back or to do again."""


class NameMissing(LookupError):
    """A name is asked for that is not there."""


class UnknownName(NameMissing):
    """No mark has this name."""

    def __init__(self, name):
        self.name = name
