"""What the tests hold the program against: the document's words carried out by trying everything."""

import itertools
import random

PRIMES = [n for n in range(2, 98) if all(n % k for k in range(2, n))]

SIDES = {
    "id": (1, 1), "swap": (2, 2), "copy": (1, 2), "end": (1, 0), "add": (2, 1), "none": (0, 1),
    "times": (1, 1), "cup": (0, 2), "empty": (0, 0), "late": (1, 1),
}


def span(p, rows, length):
    """All sums of the rows, as a set."""
    sums = {(0,) * length}
    for row in rows:
        sums = {tuple((a + k * b) % p for a, b in zip(one, row)) for one in sums for k in range(p)}
    return sums


def all_rows(p, length):
    return list(itertools.product(range(p), repeat=length))


def product(p, one, other):
    return sum(a * b for a, b in zip(one, other)) % p


def random_rows(seed, p, count, length):
    source = random.Random(seed)
    return [tuple(source.randrange(p) for _ in range(length)) for _ in range(count)]


def faults_of_reduced(rows):
    """Which of the properties of a reduced list [4] these rows lack."""
    faults = []
    if type(rows) is not tuple or any(type(row) is not tuple for row in rows):
        faults.append("kind")
    if not all(type(number) is int for row in rows for number in row):
        faults.append("number")
    if not all(any(row) for row in rows):
        return faults + ["nought"]
    leads = [next(k for k, number in enumerate(row) if number) for row in rows]
    if any(row[lead] != 1 for row, lead in zip(rows, leads)):
        faults.append("one")
    if any(a >= b for a, b in zip(leads, leads[1:])):
        faults.append("step")
    if any(sum(1 for row in rows if row[lead]) != 1 for lead in leads):
        faults.append("lone")
    return faults


def box_pairs(p, word, number=None):
    """What a box lets by, word for word as in [8]: pairs of a left and a right row."""
    every = range(p)
    return {
        "id": lambda: {((a,), (a,)) for a in every},
        "swap": lambda: {((a, b), (b, a)) for a in every for b in every},
        "copy": lambda: {((a,), (a, a)) for a in every},
        "end": lambda: {((a,), ()) for a in every},
        "add": lambda: {((a, b), ((a + b) % p,)) for a in every for b in every},
        "none": lambda: {((), (0,))},
        "times": lambda: {((a,), (number * a % p,)) for a in every},
        "cup": lambda: {((), (a, a)) for a in every},
        "empty": lambda: {((), ())},
    }[word]()


def pairs_at(p, words, at):
    """What the drawing that begins at a word lets by, and where it ends."""
    word = words[at]
    if word == "times":
        return box_pairs(p, word, words[at + 1]), at + 2
    if word == "back":
        pairs, end = pairs_at(p, words, at + 1)
        return {(right, left) for left, right in pairs}, end
    if word in ("beside", "then"):
        one, middle = pairs_at(p, words, at + 1)
        other, end = pairs_at(p, words, middle)
        if word == "beside":
            return {(a + c, b + d) for a, b in one for c, d in other}, end
        behind = {}
        for left, right in other:
            behind.setdefault(left, []).append(right)
        return {(left, right) for left, between in one for right in behind.get(between, [])}, end
    return box_pairs(p, word), at + 1


def let_by(p, words):
    """All rows that a drawing lets by, as a set."""
    pairs, end = pairs_at(p, words, 0)
    assert end == len(words)
    return {left + right for left, right in pairs}


LEAVES = {
    (0, 0): ["empty", "back empty"], (1, 0): ["end", "back none"], (0, 1): ["none", "back end"],
    (1, 1): ["id", "times", "back times", "back id"], (2, 0): ["back cup"], (0, 2): ["cup"],
    (1, 2): ["copy", "back add"], (2, 1): ["add", "back copy"], (2, 2): ["swap", "back swap"],
}


def random_drawing(source, p, left, right, depth):
    """A drawing with these wires, its parts with at most three to a side more."""
    choice = source.randrange(5) if depth else 0
    if choice == 0 and (left, right) in LEAVES:
        leaf = tuple(source.choice(LEAVES[left, right]).split())
        return leaf + (source.randrange(p),) if leaf[-1] == "times" else leaf
    if choice == 1:
        return ("back",) + random_drawing(source, p, right, left, depth - 1)
    lower = max(depth - 1, 0)
    if choice in (2, 3):
        between = source.randrange(4)
        one = random_drawing(source, p, left, between, lower)
        return ("then",) + one + random_drawing(source, p, between, right, lower)
    splits = [(a, b) for a in range(left + 1) for b in range(right + 1) if 0 < a + b < left + right]
    above = source.choice(splits or [(0, 0)])
    one = random_drawing(source, p, above[0], above[1], lower)
    return ("beside",) + one + random_drawing(source, p, left - above[0], right - above[1], lower)


def random_drawings(seed, p, count, side, depth):
    source = random.Random(seed)
    return [
        random_drawing(source, p, source.randrange(side + 1), source.randrange(side + 1), depth)
        for _ in range(count)
    ]
