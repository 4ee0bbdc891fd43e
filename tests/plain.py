"""Rows for the tests, and the words of the document on rows told in the plainest way."""

import random

R = (0, ((),), (("a",), ("a", "b")), (("b",), ()))
FAR = 10 ** 30
A = ("a",)
B = ("b",)
C = ("c",)
D = ("d",)
AB = ("a", "b")
NONE = ()
LETTERS = ("a", "b", "c", "d4", "e", "f", "letter", "z9z9z9z9z9z9")


def unrolled(row, start, end):
    """The lots from start on, up to the one ahead of end, by writing the rounds out again and again."""
    first, left, middle, right = row
    lots = list(middle)
    low, high = first, first + len(middle)
    while low > start:
        lots = list(left) + lots
        low -= len(left)
    while high < end:
        lots = lots + list(right)
        high += len(right)
    return lots[start - low:end - low]


def lot_of(row, moment):
    """The lot at a moment, by the words of S1.1."""
    first, left, middle, right = row
    if moment < first:
        return left[(moment - first) % len(left)]
    if moment <= first + len(middle) - 1:
        return middle[moment - first]
    return right[(moment - first - len(middle)) % len(right)]


def a_lot(chance, letters):
    return tuple(sorted(letter for letter in letters if chance.random() < 0.4))


def a_row(chance, left=3, middle=4, right=3, first=5, letters=LETTERS[:2]):
    """A row whose parts have at most so many lots, and whose first is at most so far from 0."""
    return (
        chance.randint(-first, first),
        tuple(a_lot(chance, letters) for _ in range(chance.randint(1, left))),
        tuple(a_lot(chance, letters) for _ in range(chance.randint(0, middle))),
        tuple(a_lot(chance, letters) for _ in range(chance.randint(1, right))),
    )


def rows(seed, many, **limits):
    chance = random.Random(seed)
    return [a_row(chance, **limits) for _ in range(many)]


def great_row(seed, first, left=12, middle=24, right=12):
    """A row with just so many lots in each part, of all eight letters."""
    chance = random.Random(seed)
    parts = [tuple(a_lot(chance, LETTERS) for _ in range(many)) for many in (left, middle, right)]
    return (first, *parts)


def told_longer(row):
    """The same row with longer rounds, an earlier first, a later first, a longer middle."""
    first, left, middle, right = row
    turned = right[1:] + right[:1]
    back = left[-1:] + left[:-1]
    return [
        (first, left * 2, middle, right * 3),
        (first - 1, back, left[-1:] + middle, right),
        (first - len(left), left, left + middle, right),
        (first, left, middle + right[:1], turned),
        (first - 1, back * 2, left[-1:] + middle + right[:1], turned * 2),
    ]


def nested(value, many, kind):
    """The value within so many tuples, lists or dicts."""
    for _ in range(many):
        value = {"a": value} if kind is dict else kind([value])
    return value


# Values of all kinds that are no word, no integer and no lot.
STRANGE = [
    None, True, False, [], {}, [1], ["a"], {"a": 1}, {1: "a"}, (None,), (1,), ([],), ({},), ("a", 1), ((),),
    nested((), 40, tuple), nested((), 40, list), nested("a", 40, dict), nested(1, 40, tuple), nested("a", 40, list),
]
