"""What sayings look at: what was, what is, what will be."""

from splitsays.sheets import MIXING, OPPOSITE, members, needed

GREATEST_WEIGHT = 130


def touched(sheet, number):
    """Return the ascending list of the numbers of the lines that the line with a number touches."""
    return [at for at in reached_from(sheet, members(sheet[number])) if _can_be_touched(sheet[at])]


def reached(lines, number):
    """Return the ascending list of the line with a number and of all to which not, and, or lead from it."""
    return reached_from(lines, [number])


def reached_from(lines, numbers):
    """Return the ascending list of the lines with these numbers and of all to which not, and, or lead from them."""
    found = {number: True for number in numbers}
    ahead = list(found)
    while ahead:
        line = lines[ahead.pop()]
        if line[0] in MIXING:
            later = [member for member in members(line) if member not in found]
            found.update({member: True for member in later})
            ahead.extend(later)
    return sorted(found)


def _can_be_touched(line):
    """Return whether a line is a letter, until or since line."""
    return line[0] in ("letter", "until", "since")


def rests_on(sheet):
    """Return the ascending list of the numbers of the lines on which a sheet rests."""
    last = len(sheet) - 1
    return [last] if _can_be_touched(sheet[last]) else touched(sheet, last)


def is_past(sheet):
    """Return whether a sheet is of the past."""
    return _rests_alone_on(sheet, "since")


def is_now(sheet):
    """Return whether a sheet is of now."""
    return not _is_needed(sheet, "until") and not _is_needed(sheet, "since")


def is_future(sheet):
    """Return whether a sheet is of the future."""
    return _rests_alone_on(sheet, "until")


def _rests_alone_on(sheet, word):
    """Return whether a sheet rests on lines of this word alone, of until and since, and needs none of the other."""
    if _is_needed(sheet, OPPOSITE[word]):
        return False
    return all([sheet[number][0] == word for number in rests_on(sheet)])


def _is_needed(sheet, word):
    """Return whether a sheet needs a line of this word."""
    return any([sheet[number][0] == word for number in needed(sheet)])


def is_split(sheet):
    """Return whether a sheet is split."""
    numbers = needed(sheet)
    for word in ("until", "since"):
        needing = {}
        for number in numbers:
            line = sheet[number]
            needing[number] = line[0] == word or any([needing[member] for member in members(line)])
            if line[0] == OPPOSITE[word] and needing[number]:
                return False
    return True


def kind(sheet):
    """Return the kind of a sheet, one of the words now, past, future, split and mixed."""
    if is_now(sheet):
        return "now"
    if is_past(sheet):
        return "past"
    if is_future(sheet):
        return "future"
    return "split" if is_split(sheet) else "mixed"


def turns(sheet):
    """Return the turns of a sheet."""
    # For each line, how often lists that begin with it change, if the until or
    # since line ahead of it is an until, if it is a since, and if there is none.
    known = {}
    for number in needed(sheet):
        line = sheet[number]
        if line[0] in OPPOSITE:
            most = max([known[member][line[0]] for member in members(line)])
            known[number] = {line[0]: most, OPPOSITE[line[0]]: most + 1, "none": most}
        else:
            most = [known[member] for member in members(line)]
            known[number] = {word: max([found[word] for found in most], default=0)
                             for word in ("until", "since", "none")}
    return known[len(sheet) - 1]["none"]


def weight(sheet):
    """Return the weight of a sheet if this is at most 130, and None otherwise."""
    numbers = needed(sheet)
    # Each power is at least 1, so that of more lines the sum is too great.
    if len([number for number in numbers if sheet[number][0] in OPPOSITE]) > GREATEST_WEIGHT:
        return None
    inner = {}
    powers = {}
    for number in numbers:
        line = sheet[number]
        inner[number] = sorted({found for member in members(line) for found in inner[member]})
        if line[0] in OPPOSITE:
            powers[number] = _power(sheet, line, inner, powers)
            inner[number].append(number)
            if sum(list(powers.values())) > GREATEST_WEIGHT:
                return None
    return sum(list(powers.values()))


def _power(sheet, line, inner, powers):
    """Return the power of an until or since line, or more than 130, those of the lines it needs being known."""
    opposite = OPPOSITE[line[0]]
    needs = {member: [number for number in inner[member] if sheet[number][0] == opposite] for member in line[1:]}
    both = {number: True for member in line[1:] for number in needs[member]}
    total = sum([powers[number] for number in both])
    first = sheet[line[1]]
    is_plain = first[0] == opposite and not needs[line[2]]
    if is_plain and not [number for number in inner[line[1]] if sheet[number][0] == line[0]]:
        return 2 * _power_of_five(total - 1)
    return _power_of_five(total)


def _power_of_five(many):
    """Return 5 to the power of a number, or one that is too great as well."""
    power = 1
    for _ in range(many):
        power = power * 5
        if power > GREATEST_WEIGHT:
            return power
    return power
