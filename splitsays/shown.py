"""By which moment an until or a since is shown to be true, or barred."""

from splitsays.rows import turned
from splitsays.sheets import needed, told_once
from splitsays.tracks import either, next_moment, tracks


def shown(sheet, row, moment):
    """Return ("shown", n), ("barred", n) or ("no",) for the until or since line that is the last one."""
    word, one, other = sheet[-1]
    lines, places = told_once(sheet, needed(sheet))
    known = list(tracks(lines, row))
    met, kept = known[places[one]], known[places[other]]
    if word == "until":
        return _shown_later(met, kept, moment)
    found = _shown_later(turned(met), turned(kept), -moment)
    return found if len(found) == 1 else (found[0], -found[1])


def _shown_later(met, kept, moment):
    """Return what shows or bars that met comes to be true, with kept being true at all moments between."""
    by = next_moment(met, moment, True)
    against = next_moment(either(met, kept), moment, False)
    if by is not None and (against is None or by < against):
        return ("shown", by)
    if against is not None:
        return ("barred", against)
    return ("no",)
