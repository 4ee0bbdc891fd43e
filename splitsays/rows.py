"""Lots and rows: how they are judged, read, compared and made from each other."""

from splitsays.errors import BadRow
from splitsays.words import is_integer, is_word


def is_lot(value):
    """Return whether value, which may be anything, is a lot."""
    if not isinstance(value, tuple) or not all([is_word(letter) for letter in value]):
        return False
    return all([one < other for one, other in zip(value, value[1:])])


def check_row(value):
    """Raise BadRow with the path of the first wrong part if value, which may be anything, is no row."""
    path = _wrong_part(value)
    if path is not None:
        raise BadRow(path)


def _wrong_part(value):
    """Return the path of the first wrong part of what should be a row, or None."""
    if not isinstance(value, tuple) or len(value) != 4:
        return ()
    if not is_integer(value[0]):
        return (0,)
    for number in range(1, 4):
        path = _wrong_lots(value[number], number)
        if path is not None:
            return path
    return None


def _wrong_lots(value, number):
    """Return the path of the first wrong part of the member with this number, or None."""
    if not isinstance(value, tuple):
        return (number,)
    if len(value) == 0 and number != 2:
        return (number,)
    for at, lot in enumerate(value):
        if not is_lot(lot):
            return (number, at)
    return None


def lot_at(row, moment):
    """Return the lot at a moment."""
    first, left, middle, right = row
    steps = moment - first
    if steps < 0:
        return left[steps % len(left)]
    if steps < len(middle):
        return middle[steps]
    return right[(steps - len(middle)) % len(right)]


def holds(row, letter, moment):
    """Return whether a letter holds at a moment."""
    return letter in lot_at(row, moment)


def letters_of(row):
    """Return the ascending list of all letters that hold anywhere, each once."""
    _, left, middle, right = row
    return sorted({letter for lot in left + middle + right for letter in lot})


def one_form(row):
    """Return the row in one form that is alike to a row."""
    first, left, middle, right = row
    before = _least_round(left)
    behind = _least_round(right)
    start = _first_change(row, before)
    if start is None:
        lots = lots_between(row, 0, before)
        return (0, lots, (), lots)
    end = max(first + len(middle), start)
    lots = lots_between(row, start, end + behind)
    many = end - start
    while many > 0 and lots[many - 1] == lots[many - 1 + behind]:
        many -= 1
    return (start, lots_between(row, start - before, start), lots[:many], lots[many:many + behind])


def _least_round(lots):
    """Return how many lots the shortest round has that goes on as these do."""
    for many in range(1, len(lots)):
        if lots == lots[:many] * (len(lots) // many):
            return many
    return len(lots)


def _first_change(row, apart):
    """Return the first moment whose lot is not that of so many moments ago, or None.

    The number is one by which the row's left side comes round.
    """
    # Behind the middle and one left round both lots are of the right side:
    # what is so there for one right round is so for ever.
    lots = lots_between(row, row[0] - apart, row[0] + _many_lots(row))
    for at, (ago, now) in enumerate(zip(lots, lots[apart:])):
        if ago != now:
            return row[0] + at
    return None


def lots_between(row, start, end):
    """Return the tuple of the lots from start on, up to the one ahead of end."""
    first, left, middle, right = row
    last = first + len(middle)
    ahead = _round_between(left, start - first, min(end, first) - first)
    behind = _round_between(right, max(start, last) - last, end - last)
    return ahead + middle[max(start - first, 0):max(end - first, 0)] + behind


def _round_between(lots, start, end):
    """Return the tuple of the lots from start on, up to the one ahead of end, if the round begins at 0."""
    turn = start % len(lots)
    many = max(end - start, 0)
    return (lots * ((turn + many) // len(lots) + 1))[turn:turn + many]


def are_alike(one, other):
    """Return whether two rows have the same lot at each moment."""
    return one_form(one) == one_form(other)


def nearest_unlike(one, other):
    """Return the moment nearest to 0 at which two rows have unlike lots, or None."""
    many = _many_lots(one) + _many_lots(other)
    found = []
    for edge in [0] + _edges(one) + _edges(other):
        # Between two edges each row shows either a part of its middle or one
        # of its rounds. Two rounds that agree on as many moments as both have
        # lots agree for as long as both go on (Fine and Wilf): so it is enough
        # to look at so many moments behind each edge, seen from 0.
        if edge >= 0:
            found += _first_unlike(one, other, edge, 1, many)
        if edge <= 0:
            found += _first_unlike(one, other, edge - 1, -1, many)
    return min(found, key=lambda moment: (abs(moment), -moment), default=None)


def _many_lots(row):
    """Return how many lots tell a row."""
    return len(row[1]) + len(row[2]) + len(row[3])


def _edges(row):
    """Return the moments with which the middle and the right side of a row begin."""
    return [row[0], row[0] + len(row[2])]


def _first_unlike(one, other, start, step, many):
    """Return a list of the first one of so many moments at which two rows are unlike, or []."""
    for moment in range(start, start + step * many, step):
        if lot_at(one, moment) != lot_at(other, moment):
            return [moment]
    return []


def shifted(row, by):
    """Return the row in one form that has at each moment the lot of so many moments ago."""
    first, left, middle, right = row
    return one_form((first + by, left, middle, right))


def mirrored_row(row):
    """Return the row in one form that has at each moment k the lot at -k."""
    return one_form(turned(row))


def turned(row):
    """Return a row, perhaps not in one form, that has at each moment k the lot at -k."""
    first, left, middle, right = row
    return (1 - first - len(middle), right[::-1], middle[::-1], left[::-1])


def joined_rows(one, other, moment):
    """Return the row in one form with the lots of one up to a moment, and of other at later ones."""
    later = moment + 1
    start = min(one[0], later)
    end = max(other[0] + len(other[2]), later)
    middle = lots_between(one, start, later) + lots_between(other, later, end)
    return _between_sides(one, start, middle, end, other)


def with_lot(row, moment, lot):
    """Return the row in one form that has a lot at a moment, and its own lots elsewhere."""
    later = moment + 1
    start = min(row[0], moment)
    end = max(row[0] + len(row[2]), later)
    middle = lots_between(row, start, moment) + (lot,) + lots_between(row, later, end)
    return _between_sides(row, start, middle, end, row)


def _between_sides(one, start, middle, end, other):
    """Return in one form the middle from start to end between one's left side and other's right one."""
    left = lots_between(one, start - len(one[1]), start)
    right = lots_between(other, end, end + len(other[3]))
    return one_form((start, left, middle, right))
