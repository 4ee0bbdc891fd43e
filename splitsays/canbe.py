"""What can be, and whether sheets are alike."""

from splitsays.sheets import denied, put, tidy
from splitsays.stands import Stands
from splitsays.walks import Walks


def can_be(sheet):
    """Return a pair of a row and a moment at which a sheet is true there, or None if it cannot be."""
    lines = tidy(sheet)
    stands = Stands(lines)
    walks = Walks(stands)
    lefts = walks.homes(stands.sinces)
    rights = walks.homes(stands.untils)
    for stand in range(stands.many):
        if stands.is_true(stand, len(lines) - 1):
            ahead = walks.shortest([(home, stands.begins[stand]) for home in lefts])
            behind = walks.shortest([(stands.ends[stand], home) for home in rights])
            if ahead is not None and behind is not None:
                return _row_through(walks, ahead, stand, behind), 0
    return None


def _row_through(walks, ahead, stand, behind):
    """Return the row with a stand at the moment 0, and with rounds at the joints where the walks ahead and behind end.

    The one pair of joints tells from where to where the walk ahead of the
    stand leads, the other one that behind it.
    """
    stands = walks.stands
    start = walks.between(ahead[0], ahead[1])
    end = walks.between(behind[0], behind[1])
    parts = (
        walks.round_at(ahead[0], stands.sinces),
        start + [stand] + end,
        walks.round_at(behind[1], stands.untils),
    )
    left, middle, right = [tuple([stands.lot(at) for at in walk]) for walk in parts]
    return (-len(start), left, middle, right)


def is_always(sheet):
    """Return whether a sheet is true at each moment of each row."""
    return can_be(denied(sheet)) is None


def alike(one, other):
    """Return None if two sheets are alike, and otherwise a row and a moment at which just one of them is true."""
    return can_be(put("or", put("and", one, denied(other)), put("and", denied(one), other)))
