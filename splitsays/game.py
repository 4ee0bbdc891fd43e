"""What can be kept of a book of rules: which states are good, and the ranks of the others.

States and lots are told by numbers here. The bits of that of a state tell of
each since line of the sheets was, rule by rule, whether it is true; those of
that of a lot tell of each letter of own, and then of world, whether it holds.
"""

from splitsays.machine import Machine
from splitsays.tables import table_of, tables_of, ways_of


class Game:
    """The states of a book by their numbers, and what each choice at each of them leads to.

    For each state there are a table of the lots that keep the book, and the
    list of the states to which the lots lead.
    """

    def __init__(self, book):
        self.own, self.world, rules = book
        self.machines = [Machine(was) for was, _ in rules]
        many = len(self.own) + len(self.world)
        self.kept = [ways_of(many)]
        self.leads_to = [[0] * (1 << many)]
        letters = {letter: table_of(place, many) for place, letter in enumerate(self.own + self.world)}
        for machine, (_, shall) in zip(self.machines, rules):
            self._take_rule(_kept(machine, Machine(shall), letters, many), _leads_to(machine, letters, many))
        self.reached = [[self._reached(state, choice) for choice in range(1 << len(self.world))]
                        for state in range(len(self.kept))]
        self.ranks = _ranks(self.reached)

    def _take_rule(self, kept, leads_to):
        """Take one rule more, of which the same is told by itself."""
        many = len(self.kept)
        self.kept = [table & own for own in kept for table in self.kept]
        self.leads_to = [[state + many * later for state, later in zip(states, own)]
                         for own in leads_to for states in self.leads_to]

    def number_of(self, state):
        """Return the number of a state."""
        return _number([is_true for part in state for is_true in part])

    def state_of(self, number):
        """Return the state with a number."""
        state = []
        for machine in self.machines:
            many = len(machine.sinces)
            state.append(tuple([(number >> place) & 1 == 1 for place in range(many)]))
            number = number >> many
        return tuple(state)

    def moves(self, state, choice):
        """Return the list of what the doer may do at a state if the world makes a choice.

        Each thing to do is a pair of numbers, of the choice and of the state to which it leads.
        """
        start = choice << len(self.own)
        return [(own, self.leads_to[state][start + own]) for own in range(1 << len(self.own))
                if (self.kept[state] >> (start + own)) & 1 == 1]

    def _reached(self, state, choice):
        """Return the states to which the doer may lead then, as the bits of a number."""
        found = 0
        for _, later in self.moves(state, choice):
            found |= 1 << later
        return found

    def worst(self, state):
        """Return the number of a choice of the world by which a state has its rank, or None for a good one."""
        rank = self.ranks[state]
        if rank is None:
            return None
        saved = _number([other is None or other >= rank for other in self.ranks])
        return [choice for choice, found in enumerate(self.reached[state]) if (found & saved) == 0][0]

    def best(self, state, choice):
        """Return the number of a choice of the doer that leads to a state as good as can be, or None."""
        moves = self.moves(state, choice)
        good = [own for own, later in moves if self.ranks[later] is None]
        if good:
            return good[0]
        return max([(self.ranks[later], own) for own, later in moves], default=(0, None))[1]


def choice_number(letters, lot):
    """Return the number of the choice of the letters that stand in a lot."""
    return _number([letter in lot for letter in letters])


def choice_lot(letters, number):
    """Return the lot of the choice of letters that has a number."""
    return tuple([letter for place, letter in enumerate(letters) if (number >> place) & 1 == 1])


def _number(truths):
    """Return the number whose bits are truths."""
    return sum([1 << place for place, is_true in enumerate(truths) if is_true])


def _kept(machine, shall, letters, many):
    """Return the list of the tables of the lots that keep a rule, for each state of its sheet was."""
    done = _tables(shall, 0, letters, many)[len(shall.lines) - 1]
    last = len(machine.lines) - 1
    return [(ways_of(many) ^ _tables(machine, state, letters, many)[last]) | done
            for state in range(1 << len(machine.sinces))]


def _leads_to(machine, letters, many):
    """Return for each state of a sheet was the list of the states to which the lots lead."""
    found = []
    for state in range(1 << len(machine.sinces)):
        tables = _tables(machine, state, letters, many)
        later = []
        for number in machine.sinces:
            _, one, other = machine.lines[number]
            later.append(tables[one] | (tables[other] & tables[number]))
        found.append([_number([(table >> lot) & 1 == 1 for table in later]) for lot in range(1 << many)])
    return found


def _tables(machine, state, letters, many):
    """Return the dict of the tables of the lots with which the lines of a machine are true at a state."""
    known = {number: letters[line[1]] for number, line in enumerate(machine.lines) if line[0] == "letter"}
    for place, number in enumerate(machine.sinces):
        known[number] = ways_of(many) if (state >> place) & 1 == 1 else 0
    return tables_of(machine.lines, list(range(len(machine.lines))), known, ways_of(many))


def _ranks(reached):
    """Return the list of the ranks of all states, None for good ones, by the states to which each choice may lead."""
    ranks = [None] * len(reached)
    good = (1 << len(reached)) - 1
    lost = [state for state, found in enumerate(reached) if 0 in found]
    rank = 0
    while lost:
        for state in lost:
            ranks[state] = rank
            good ^= 1 << state
        rank += 1
        lost = [state for state, found in enumerate(reached)
                if ranks[state] is None and any([(choice & good) == 0 for choice in found])]
    return ranks
