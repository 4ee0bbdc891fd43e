"""Consoles, which read lines for a house."""

from splitsays.errors import BadAct, BadText, NothingDone, UnknownName
from splitsays.machine import Machine
from splitsays.rowtexts import lot_text, take_lot
from splitsays.rules import is_was, rank
from splitsays.sheettexts import take_sheet
from splitsays.texts import Reader

# What stands behind the word with which a line begins.
_FORMS = {
    "moment": ("lot",), "see": ("lot",), "rule": ("sheet", "shall", "sheet"), "drop": ("number",), "undo": (),
    "redo": (), "mark": ("name",), "since": ("name",), "state": (), "moments": (), "now": ("sheet",), "last": (),
}


def _read(line):
    """Return the tuple of what a line tells: its word, and what stands behind it, right or wrong."""
    reader = Reader(line)
    word = reader.take_one(list(_FORMS))
    told = [word]
    for sort in _FORMS[word]:
        if sort == "shall":
            reader.take("shall")
        else:
            told.append(_taken(reader, sort))
    reader.take(";")
    reader.take_end()
    return tuple(told)


def _taken(reader, sort):
    """Take what has the form of a lot, a sheet, a number or a name, and return it."""
    if sort == "lot":
        return take_lot(reader)
    if sort == "sheet":
        return take_sheet(reader)
    if sort == "number":
        return reader.take_number()
    return reader.take_sort("word")


def _act(house, told):
    """Do an act, and return the answer."""
    try:
        house.do(told)
    except BadAct as wrong:
        return f"no {wrong.word}"
    if told[0] == "see":
        return f"done {lot_text(house.history()[-1])}"
    return "done"


def _undo(house, told):
    """Take the last act back, and return the answer."""
    try:
        house.undo()
    except NothingDone:
        return "no nothing"
    return "done"


def _redo(house, told):
    """Do the last act again, and return the answer."""
    try:
        house.redo()
    except NothingDone:
        return "no nothing"
    return "done"


def _mark(house, told):
    """Set a mark, and return the answer."""
    house.mark(told[1])
    return "done"


def _since(house, told):
    """Return the answer of how many moments more have gone by than at a mark."""
    try:
        return str(house.since(told[1]))
    except UnknownName:
        return "no mark"


def _state(house, told):
    """Return the answer of how good the state is."""
    return "good" if house.is_good() else f"rank {rank(house.book(), house.state())}"


def _moments(house, told):
    """Return the answer of how many moments have gone by."""
    return str(len(house.history()))


def _now(house, told):
    """Return the answer of whether a sheet of the past is true right after the history."""
    own, world, _ = house.book()
    if not is_was(told[1], own + world):
        return "no was"
    machine = Machine(told[1])
    state = machine.after(machine.state_behind(((),)), house.history())
    return "yes" if machine.says(state) else "no"


def _last(house, told):
    """Return the answer of which lot the last moment had."""
    history = house.history()
    return lot_text(history[-1]) if history else "none"


_ANSWERS = {
    "moment": _act, "see": _act, "rule": _act, "drop": _act, "undo": _undo, "redo": _redo, "mark": _mark,
    "since": _since, "state": _state, "moments": _moments, "now": _now, "last": _last,
}


class Console:
    """Reads lines for the very house that it is made with, one at a time, and answers."""

    def __init__(self, house):
        self._house = house

    def answer(self, line):
        """Do and ask what a line tells, and return the answer."""
        try:
            told = _read(line)
        except BadText as wrong:
            return f"no {wrong.place}"
        action = _ANSWERS[told[0]]
        return action(self._house, told)
