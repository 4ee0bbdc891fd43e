"""What can be kept of a book of rules: which states are good, and the ranks of the others.

All moments that may be are looked at together. Each one has a number, whose
bits tell of each letter of own, of each letter of world, and of each since line
of the sheets was whether it is true there; own has the lowest bits. A choice of
letters, and a state, have a number likewise.
"""

from splitsays.machine import Machine
from splitsays.tables import table_of, tables_of, ways_of


class Game:
    """The states of a book by their numbers, and what each choice at each of them leads to."""

    def __init__(self, book):
        self.own, self.world, rules = book
        self.machines = [Machine(was) for was, _ in rules]
        self.many_letters = len(self.own) + len(self.world)
        self.many_states = 1 << sum([len(machine.sinces) for machine in self.machines])
        self.is_kept, self.leads_to = _moves(self, [Machine(shall) for _, shall in rules])
        self.reached = [[self._reached(state, choice) for choice in range(1 << len(self.world))]
                        for state in range(self.many_states)]
        self.ranks = _ranks(self.reached)

    def number_of(self, state):
        """Return the number of a state."""
        return _number([is_true for part in state for is_true in part])

    def state_of(self, number):
        """Return the state with a number."""
        state = []
        for machine in self.machines:
            many = len(machine.sinces)
            state.append(tuple([(number >> place) & 1 == 1 for place in range(many)]))
            number = number >> many
        return tuple(state)

    def moves(self, state, choice):
        """Return the list of what the doer may do at a state if the world makes a choice.

        Each thing to do is a pair of numbers, of the choice and of the state to which it leads.
        """
        start = (state << self.many_letters) + (choice << len(self.own))
        return [(own, self.leads_to[start + own]) for own in range(1 << len(self.own)) if self.is_kept[start + own]]

    def _reached(self, state, choice):
        """Return the states to which the doer may lead then, as the bits of a number."""
        found = 0
        for _, later in self.moves(state, choice):
            found |= 1 << later
        return found

    def all_later(self, state):
        """Return the list of the states to which lots lead from a state, whether these keep the book or not."""
        start = state << self.many_letters
        return self.leads_to[start:start + (1 << self.many_letters)]

    def worst(self, state):
        """Return the number of a choice of the world by which a state has its rank, or None for a good one."""
        rank = self.ranks[state]
        if rank is None:
            return None
        saved = sum([1 << number for number, other in enumerate(self.ranks) if other is None or other >= rank])
        return [choice for choice, found in enumerate(self.reached[state]) if (found & saved) == 0][0]

    def best(self, state, choice):
        """Return the number of a choice of the doer that leads to a state as good as can be, or None."""
        moves = self.moves(state, choice)
        good = [own for own, later in moves if self.ranks[later] is None]
        if good:
            return good[0]
        return max([(self.ranks[later], own) for own, later in moves], default=(0, None))[1]


def choice_number(letters, lot):
    """Return the number of the choice of the letters that stand in a lot."""
    return _number([letter in lot for letter in letters])


def choice_lot(letters, number):
    """Return the lot of the choice of letters that has a number."""
    return tuple([letter for place, letter in enumerate(letters) if (number >> place) & 1 == 1])


def _number(truths):
    """Return the number whose bits are truths."""
    return sum([1 << place for place, is_true in enumerate(truths) if is_true])


def _moves(game, shalls):
    """Return the lists of whether a moment keeps the book, and of the state to which it leads, for each moment."""
    many = game.many_letters + sum([len(machine.sinces) for machine in game.machines])
    letters = {letter: table_of(place, many) for place, letter in enumerate(game.own + game.world)}
    kept = ways_of(many)
    leads_to = [0] * (1 << many)
    place = game.many_letters
    for machine, shall in zip(game.machines, shalls):
        sinces = {number: table_of(place + at, many) for at, number in enumerate(machine.sinces)}
        was = _tables(machine.lines, letters, sinces, many)
        done = _tables(shall.lines, letters, {}, many)
        kept &= (ways_of(many) ^ was[len(machine.lines) - 1]) | done[len(shall.lines) - 1]
        for number in machine.sinces:
            _, one, other = machine.lines[number]
            later = _bits(was[one] | (was[other] & was[number]), many)
            bit = 1 << (place - game.many_letters)
            leads_to = [state + bit if sign == "1" else state for state, sign in zip(leads_to, later)]
            place += 1
    return [sign == "1" for sign in _bits(kept, many)], leads_to


def _tables(lines, letters, sinces, many):
    """Return the dict of the tables of lines, those of letters and of since lines being known."""
    known = {number: letters[line[1]] for number, line in enumerate(lines) if line[0] == "letter"}
    known.update(sinces)
    return tables_of(lines, list(range(len(lines))), known, ways_of(many))


def _bits(table, many):
    """Return the string of the bits of a table, the lowest one first."""
    return f"{table:b}".zfill(1 << many)[::-1]


def _ranks(reached):
    """Return the list of the ranks of all states, None for good ones, by the states to which each choice may lead."""
    ranks = [None for _ in reached]
    good = (1 << len(reached)) - 1
    lost = [state for state, found in enumerate(reached) if 0 in found]
    rank = 0
    while lost:
        for state in lost:
            ranks[state] = rank
            good ^= 1 << state
        rank += 1
        lost = [state for state, found in enumerate(reached)
                if ranks[state] is None and any([(choice & good) == 0 for choice in found])]
    return ranks
