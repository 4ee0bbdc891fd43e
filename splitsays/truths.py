"""Truths of sheets in rows."""

from splitsays.rows import lot_at, nearest_unlike
from splitsays.tracks import track_of, truths_of


def truth(sheet, row, moment):
    """Return whether a sheet is true at a moment of a row."""
    return lot_at(track_of(sheet, row), moment)


def truths(sheet, row, moment):
    """Return the list of whether the lines of a sheet are true at a moment of a row, needed or not."""
    found = truths_of(sheet, list(range(len(sheet))), row, moment)
    return [found[number] for number in range(len(sheet))]


def truth_row(sheet, row):
    """Return the truth row of a sheet in a row."""
    first, left, middle, right = track_of(sheet, row)
    return (first, _lots(left), _lots(middle), _lots(right))


def _lots(told):
    """Return the tuple of the lots that tell of these truths."""
    return tuple([("yes",) if is_true else () for is_true in told])


def are_alike_on(one, other, row):
    """Return whether two sheets have the same truth at each moment of a row."""
    return track_of(one, row) == track_of(other, row)


def nearest_apart(one, other, row):
    """Return the moment nearest to 0 at which the truths of two sheets in a row are not the same, or None."""
    return nearest_unlike(track_of(one, row), track_of(other, row))
