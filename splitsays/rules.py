"""Books of rules: how they are judged, their states, and what can be kept of them."""

from splitsays.errors import BadRules, BadSheet
from splitsays.game import Game, choice_lot, choice_number
from splitsays.kinds import is_now, is_past
from splitsays.machine import Machine
from splitsays.rows import is_lot
from splitsays.sheets import check_sheet, letters_in


def check_rules(value):
    """Raise BadRules with the path of the first wrong part if value, which may be anything, is no book of rules."""
    path = _wrong_part(value)
    if path is not None:
        raise BadRules(path)


def _wrong_part(value):
    """Return the path of the first wrong part of what should be a book of rules, or None."""
    if not isinstance(value, tuple) or len(value) != 3:
        return ()
    own, world, rules = value
    if not is_lot(own):
        return (0,)
    if not is_lot(world) or any([letter in own for letter in world]):
        return (1,)
    if not isinstance(rules, tuple):
        return (2,)
    for number, rule in enumerate(rules):
        path = _wrong_in_rule(rule, own + world)
        if path is not None:
            return (2, number) + path
    return None


def _wrong_in_rule(value, letters):
    """Return the path of the first wrong part of what should be a rule, or None."""
    if not isinstance(value, tuple) or len(value) != 2:
        return ()
    if not is_was(value[0], letters):
        return (0,)
    return None if is_shall(value[1], letters) else (1,)


def is_was(value, letters):
    """Return whether value, which may be anything, is a sheet of the past that needs letters of these alone."""
    return _is_sheet_with(value, letters) and is_past(value)


def is_shall(value, letters):
    """Return whether value, which may be anything, is a sheet of now that needs letters of these alone."""
    return _is_sheet_with(value, letters) and is_now(value)


def _is_sheet_with(value, letters):
    """Return whether value, which may be anything, is a sheet that needs letters of these alone."""
    try:
        check_sheet(value)
    except BadSheet:
        return False
    return all([letter in letters for letter in letters_in(value)])


def begin(book):
    """Return the state with which a book begins."""
    return tuple([Machine(was).state_behind(((),)) for was, _ in book[2]])


def keeps(book, state, lot):
    """Return whether a lot of letters of own and world keeps a book at a state."""
    for (was, shall), part in zip(book[2], state):
        if Machine(was).says(part) and not Machine(shall).is_true((), lot):
            return False
    return True


def next_of(book, state, lot):
    """Return the state of a book at the next moment."""
    return tuple([Machine(was).following(part, lot) for (was, _), part in zip(book[2], state)])


def good_states(book):
    """Return the ascending list of the good states among those to which lots lead from where a book begins."""
    game = Game(book)
    found = {}
    ahead = [game.number_of(begin(book))]
    while ahead:
        number = ahead.pop()
        if number not in found:
            found[number] = True
            ahead.extend(list(game.leads_to[number]))
    return sorted([game.state_of(number) for number in found if game.ranks[number] is None])


def rank(book, state):
    """Return None for a good state of a book, and otherwise its rank."""
    game = Game(book)
    return game.ranks[game.number_of(state)]


def worst(book, state):
    """Return a choice of the world by which a state that is not good has its rank, and None for a good one."""
    game = Game(book)
    choice = game.worst(game.number_of(state))
    return None if choice is None else choice_lot(game.world, choice)


def answer(book, state, lot):
    """Return a choice of the doer that keeps a book and leads to a state as good as can be, or None."""
    return answer_in(Game(book), state, lot)


def answer_in(game, state, lot):
    """Return the same, what can be kept of the book being known."""
    choice = game.best(game.number_of(state), choice_number(game.world, lot))
    return None if choice is None else choice_lot(game.own, choice)
