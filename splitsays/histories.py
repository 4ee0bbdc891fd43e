"""Histories read by machines: states of sheets of the past, and how they are told apart."""

from splitsays.machine import Machine


def state_behind(sheet, left):
    """Return the state of a sheet of the past behind a left round."""
    return Machine(sheet).state_behind(left)


def next_state(sheet, state, lot):
    """Return the state at the next moment."""
    return Machine(sheet).following(state, lot)


def state_after(sheet, state, lots):
    """Return the state to which the lots of a tuple lead, one after another."""
    return Machine(sheet).after(state, lots)


def says(sheet, state):
    """Return whether a sheet is true at a moment with a state."""
    return Machine(sheet).says(state)


def states_come_to(sheet, lots):
    """Return the ascending list of the states that are come to by a list of different lots."""
    return sorted(_come_to(Machine(sheet), lots))


def _come_to(machine, lots):
    """Return the dict of the states that are come to, with the states to which the lots lead each one."""
    known = {}
    ahead = [machine.state_behind(((),))]
    while ahead:
        state = ahead.pop()
        if state not in known:
            known[state] = [machine.following(state, lot) for lot in lots]
            ahead.extend(known[state])
    return known


def like_states(sheet, lots):
    """Return the list of the tuples of states come to that are like each other."""
    machine = Machine(sheet)
    known = _come_to(machine, lots)
    states = sorted(known)
    # States that are not told apart so far have the same number.
    numbers = _numbered(states, {state: machine.says(state) for state in states})
    many = 0
    while max(numbers) >= many:
        many = max(numbers) + 1
        number_of = {state: number for state, number in zip(states, numbers)}
        told = {state: tuple([number_of[at] for at in [state] + known[state]]) for state in states}
        numbers = _numbered(states, told)
    return [tuple([state for state, own in zip(states, numbers) if own == number]) for number in range(many)]


def _numbered(states, told):
    """Return the list of a number for each state, the same for those of which the same is told, as they come."""
    known = {}
    return [known.setdefault(told[state], len(known)) for state in states]


def told_apart(sheet, lots, one, other):
    """Return the tuple of lots by which two states are told apart, or None if they are like."""
    machine = Machine(sheet)
    known = {(one, other): True}
    level = [(one, other, ())]
    while level:
        for first, second, told in level:
            if machine.says(first) != machine.says(second):
                return told
        level = _next_level(machine, lots, level, known)
    return None


def _next_level(machine, lots, level, known):
    """Return the pairs of states that are not known yet, with the lots that lead to them, and make them known."""
    later = []
    for first, second, told in level:
        for lot in lots:
            pair = (machine.following(first, lot), machine.following(second, lot))
            if pair not in known:
                known[pair] = True
                later.append(pair + (told + (lot,),))
    return later
