"""Claims about moments: how they are judged, what they speak of, and whether they are true."""

from splitsays.errors import BadClaim
from splitsays.rows import holds
from splitsays.words import is_word

# What the members of a claim with this word are, behind the word.
MEMBERS = {
    "mark": ("letter", "name"), "before": ("name", "name"), "same": ("name", "name"), "not": ("claim",),
    "and": ("claim", "claim"), "or": ("claim", "claim"), "some": ("bound", "claim"), "each": ("bound", "claim"),
}

BINDING = ("some", "each")


def check_claim(value):
    """Raise BadClaim with the path of the first wrong part if value, which may be anything, is no claim."""
    # Each thing that should be a claim stands here with its path and the names that are bound around it.
    ahead = [(value, (), ())]
    while ahead:
        claim, path, bound = ahead.pop()
        wrong = _wrong_member(claim, bound)
        if wrong is not None:
            raise BadClaim(path + wrong)
        inner = bound + (claim[1],) if claim[0] in BINDING else bound
        ahead.extend([(claim[at], path + (at,), inner) for at in reversed(claims_in(claim))])


def _wrong_member(value, bound):
    """Return the path of what is wrong in a claim but for the claims in it, or None."""
    if not isinstance(value, tuple) or len(value) == 0:
        return ()
    if not isinstance(value[0], str) or value[0] not in MEMBERS or len(value) != len(MEMBERS[value[0]]) + 1:
        return ()
    for at, sort in enumerate(MEMBERS[value[0]], start=1):
        if sort != "claim" and not is_word(value[at]):
            return (at,)
        if sort == "bound" and value[at] in bound:
            return (at,)
    return None


def claims_in(claim):
    """Return the list of the places of the members of a claim that are claims."""
    return [at for at, sort in enumerate(MEMBERS[claim[0]], start=1) if sort == "claim"]


def names_in(claim):
    """Return the tuple of the names of a mark or a comparison."""
    return claim[2:] if claim[0] == "mark" else claim[1:]


def free_names(claim):
    """Return the ascending list of the free names of a claim."""
    return sorted({name for told, bound in _plain_parts(claim) for name in names_in(told) if name not in bound})


def _plain_parts(claim):
    """Return the list of the marks and comparisons in a claim, each with the names that are bound around it."""
    found = []
    ahead = [(claim, ())]
    while ahead:
        told, bound = ahead.pop()
        if claims_in(told):
            inner = bound + (told[1],) if told[0] in BINDING else bound
            ahead.extend([(told[at], inner) for at in claims_in(told)])
        else:
            found.append((told, bound))
    return found


def depth(claim):
    """Return the depth of a claim."""
    inner = max([depth(claim[at]) for at in claims_in(claim)], default=0)
    return inner + 1 if claim[0] in BINDING else inner


def breadth(claim):
    """Return the breadth of a claim that begins with some or each."""
    return _many_free(claim) + sum([1 << _many_free(inner) for inner in _binding_parts(claim[2])])


def _many_free(claim):
    """Return how many marks and comparisons stand in a claim with all their names free there, equal ones once."""
    return len({told for told, bound in _plain_parts(claim) if not any([name in bound for name in names_in(told)])})


def _binding_parts(claim):
    """Return the list of each some and each in a claim that stands in no other one of them."""
    if claim[0] in BINDING:
        return [claim]
    return [inner for at in claims_in(claim) for inner in _binding_parts(claim[at])]


def claim_truth(claim, row, moment):
    """Return whether a claim with at most one free name is true in a row, that name standing for the moment."""
    return _is_true(claim, row, {name: moment for name in free_names(claim)})


def _is_true(claim, row, given):
    """Return whether a claim is true in a row if its free names have the moments that are given."""
    word = claim[0]
    if word == "mark":
        return holds(row, claim[1], given[claim[2]])
    if word == "before":
        return given[claim[1]] < given[claim[2]]
    if word == "same":
        return given[claim[1]] == given[claim[2]]
    if word == "not":
        return not _is_true(claim[1], row, given)
    if word == "and":
        return _is_true(claim[1], row, given) and _is_true(claim[2], row, given)
    if word == "or":
        return _is_true(claim[1], row, given) or _is_true(claim[2], row, given)
    return _is_bound_true(claim, row, given)


def _is_bound_true(claim, row, given):
    """Return the same for a claim that begins with some or each."""
    word, name, inner = claim
    free = free_names(claim)
    for moment in _enough_moments(row, [given[other] for other in free], depth(claim)):
        known = {other: given[other] for other in free}
        known[name] = moment
        if _is_true(inner, row, known) == (word == "some"):
            return word == "some"
    return word == "each"


def _enough_moments(row, given, depth_of_claim):
    """Return the list of the moments to look at for a claim of this depth, some moments being given."""
    first, left, middle, right = row
    # One round more than what is told to be far away enough.
    span = ((1 << depth_of_claim) + 1) * max(len(left), len(right))
    edges = [(first, first + len(middle))] + [(moment, moment + 1) for moment in given]
    return sorted({moment for start, end in edges for moment in range(start - span, end + span)})
