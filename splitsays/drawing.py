"""Drawing an until line out of a since line, and a since line out of an until line."""

from splitsays.errors import BadSheet
from splitsays.kinds import touched
from splitsays.maker import Maker
from splitsays.sheets import MIXING, OPPOSITE, check_sheet, members, needed, needed_by, part, put, told_once
from splitsays.way import Way

# How many lines may come of one that is drawn.
_MOST = 5


def drawn(sheet, k, j):
    """Return a sheet that is drawn from the line k of a sheet by the line j."""
    word = sheet[k][0]
    lines, places = told_once(sheet, needed_by(sheet, k))
    looks = [number for number, line in enumerate(lines) if line[0] == word]
    if not any([places[j] in touched(lines, number) for number in looks]):
        return part(sheet, k)
    return _drawn_out(lines, word, places[j])


def _drawn_out(lines, word, inner):
    """Return the sheet that is drawn from the last one of these lines by one that a line of this word touches."""
    maker = Maker(lines)
    made = {}
    way = None
    for number, line in enumerate(lines):
        # Lines of the other word stay as they are told, and so do the lines that they need.
        if line[0] != word:
            made[number] = maker.mixed(line, number, made)
        elif way is None:
            made[number] = maker.look(word, made[line[1]], made[line[2]])
        else:
            made[number] = way.look(made[line[1]], made[line[2]])
        if number == inner:
            way = Way(maker, inner, made[line[1]], made[line[2]])
    return maker.sheet(made[len(lines) - 1])


def judge_drawn(sheet, k, j, value):
    """Return the first fault of what should be drawn from the line k of a sheet by the line j, or None."""
    try:
        check_sheet(value)
    except BadSheet:
        return ("form",)
    word = sheet[k][0]
    both = put("and", sheet, value)
    _, places = told_once(both, list(range(len(both))))
    own = [places[len(sheet) + number] for number in range(len(value))]
    number = _first_touching(value, word, [place == places[j] for place in own])
    if number is not None:
        return ("touch", number)
    known = {places[number]: True for number in _needed_of(sheet, k, OPPOSITE[word])}
    strange = [number for number in _needed_of(value, len(value) - 1, OPPOSITE[word]) if own[number] not in known]
    if strange:
        return ("strange", strange[0])
    many = len(_needed_of(value, len(value) - 1, word))
    return ("many", many) if many > _MOST * len(_needed_of(sheet, k, word)) else None


def _needed_of(sheet, number, word):
    """Return the ascending list of the numbers of the lines of a word that a line needs."""
    return [at for at in needed_by(sheet, number) if sheet[at][0] == word]


def _first_touching(sheet, word, is_met):
    """Return the first needed line of a word that touches one of the lines told by a list of truths, or None."""
    leads = {}
    for number in needed(sheet):
        line = sheet[number]
        has_one = any([leads[member] for member in members(line)])
        if line[0] == word and has_one:
            return number
        leads[number] = is_met[number] or (line[0] in MIXING and has_one)
    return None


def left_to_draw(sheet):
    """Return the list of all pairs (k, j) of needed lines, ascending, of which k touches j across until and since."""
    numbers = needed(sheet)
    leads = {word: _leading_to(sheet, numbers, word) for word in OPPOSITE}
    pairs = []
    for number in numbers:
        if sheet[number][0] in OPPOSITE:
            pairs += [(number, met) for met in _met_from(sheet, number, leads[OPPOSITE[sheet[number][0]]])]
    return pairs


def _leading_to(sheet, numbers, word):
    """Return the dict of whether these lines are of a word, or not, and, or lead from them to such a one."""
    leads = {}
    for number in numbers:
        line = sheet[number]
        leads[number] = line[0] == word or (line[0] in MIXING and any([leads[member] for member in members(line)]))
    return leads


def _met_from(sheet, number, leads):
    """Return the ascending list of the lines told by leads that a line touches, looking only where it leads to some."""
    found = {}
    ahead = list(members(sheet[number]))
    while ahead:
        at = ahead.pop()
        if leads[at] and at not in found:
            found[at] = True
            if sheet[at][0] in MIXING:
                ahead.extend(list(members(sheet[at])))
    return sorted([at for at in found if sheet[at][0] not in MIXING])
