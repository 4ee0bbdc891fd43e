"""Claims for the tests, and the words of the document on claims told in the plainest way."""

import random

from tests.plain import lot_of

WORDS = {"mark": "ln", "before": "nn", "same": "nn", "not": "c", "and": "cc", "or": "cc", "some": "bc", "each": "bc"}


def inner(claim):
    """The claims that are members of a claim."""
    return [member for member, sort in zip(claim[1:], WORDS[claim[0]]) if sort == "c"]


def parts(claim):
    """All claims in a claim, itself too."""
    return [claim] + [found for member in inner(claim) for found in parts(member)]


def binding_parts(claim):
    return [found for found in parts(claim) if found[0] in ("some", "each")]


def depth_of(claim):
    return (claim[0] in ("some", "each")) + max([depth_of(member) for member in inner(claim)], default=0)


def free_names_of(claim):
    if claim[0] == "mark":
        return {claim[2]}
    if claim[0] in ("before", "same"):
        return {claim[1], claim[2]}
    found = set().union(*[free_names_of(member) for member in inner(claim)])
    return found - {claim[1]} if claim[0] in ("some", "each") else found


def is_claim_true(claim, row, given, low, high, more):
    """Whether a claim is true, some and each looking at the moments from low on, up to the one ahead of high.

    Those that are within other ones look at so many more to both sides.
    """
    word = claim[0]
    if word == "mark":
        return claim[1] in lot_of(row, given[claim[2]])
    if word == "before":
        return given[claim[1]] < given[claim[2]]
    if word == "same":
        return given[claim[1]] == given[claim[2]]
    if word == "not":
        return not is_claim_true(claim[1], row, given, low, high, more)
    if word in ("and", "or"):
        told = (is_claim_true(member, row, given, low, high, more) for member in claim[1:])
        return all(told) if word == "and" else any(told)
    told = (is_claim_true(claim[2], row, {**given, claim[1]: moment}, low - more, high + more, more)
            for moment in range(low, high))
    return any(told) if word == "some" else all(told)


def a_claim(chance, free, bound, deep, size, letters=("a", "b")):
    """A claim of at most so many tuples and of such a depth at most."""
    names = free + bound
    if deep and (chance.random() < 0.5 or not names):
        name = chance.choice([name for name in ("t", "x", "y", "z") if name not in bound])
        others = [other for other in free if other != name]
        return (chance.choice(("some", "each")), name,
                a_claim(chance, others, bound + [name], deep - 1, max(size - 1, 1), letters))
    if size <= 1 or chance.random() < 0.1:
        if chance.random() < 0.5:
            return ("mark", chance.choice(letters), chance.choice(names))
        return (chance.choice(("before", "before", "same")), chance.choice(names), chance.choice(names))
    if chance.random() < 0.15:
        return ("not", a_claim(chance, free, bound, deep, size - 1, letters))
    half = (size - 1) // 2
    return (chance.choice(("and", "or")), a_claim(chance, free, bound, deep, size - 1 - half, letters),
            a_claim(chance, free, bound, deep, half, letters))


def within_limits(claim, breadth):
    """Whether callers pass such a claim to saying_of and claim_truth."""
    return depth_of(claim) <= 2 and len(parts(claim)) <= 24 and all(breadth(part) <= 3 for part in binding_parts(claim))


def claims(seed, many, breadth, deep=2, size=22, **limits):
    """So many claims that callers pass, with the free name t or none."""
    chance = random.Random(seed)
    found = []
    while len(found) < many:
        claim = a_claim(chance, ["t"], [], deep, chance.randint(1, size), **limits)
        if within_limits(claim, breadth):
            found.append(claim)
    return found


def _mixed(chance, told):
    """Claims put together by and, or in any way."""
    told = list(told)
    while len(told) > 1:
        one, other = told.pop(chance.randrange(len(told))), told.pop(chance.randrange(len(told)))
        told.append((chance.choice(("and", "and", "or")), one, other))
    return told[0]


def _look(chance, letters, more):
    """Some or each moment y that is compared with x and t."""
    orders = [("before", one, "y") for one in "xt"] + [("before", "y", one) for one in "xt"] + [("same", "t", "y")]
    told = [order if chance.random() < 0.6 else ("not", order)
            for order in chance.sample(orders, chance.choice((1, 2, 2)))]
    told += [("mark", chance.choice(letters), "y")]
    return (chance.choice(("some", "each")), "y", _mixed(chance, told + more))


def a_comparing_claim(chance, letters=("a", "b", "c", "d")):
    """Some or each moment x, with other moments y that are earlier or later than x, and than t."""
    mark = ("mark", chance.choice(letters), "x")
    many = chance.randint(1, 3)
    if many == 1:
        looks = [_look(chance, letters, [mark])]
    elif many == 2:
        looks = [_look(chance, letters, [chance.choice((mark, ("before", "x", "t"), ("before", "t", "x")))]),
                 _look(chance, letters, [])]
    else:
        looks = [_look(chance, letters, []) for _ in range(3)]
    others = [("mark", chance.choice(letters), "x"), ("before", "x", "t"), ("before", "t", "x"),
              ("mark", letters[0], "t")]
    return (chance.choice(("some", "each")), "x", _mixed(chance, looks + chance.sample(others, chance.randint(0, 2))))


def comparing_claims(seed, many, breadth):
    chance = random.Random(seed)
    found = []
    while len(found) < many:
        claim = a_comparing_claim(chance)
        if within_limits(claim, breadth):
            found.append(claim)
    return found
