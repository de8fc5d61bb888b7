"""What the tests hold the program against: the document's words carried out by trying everything."""

import itertools
import random

PRIMES = [n for n in range(2, 98) if all(n % k for k in range(2, n))]

SIDES = {
    "id": (1, 1), "swap": (2, 2), "copy": (1, 2), "end": (1, 0), "add": (2, 1), "none": (0, 1),
    "times": (1, 1), "cup": (0, 2), "empty": (0, 0), "late": (1, 1),
}


def span(p, rows, length):
    """All sums of the rows, as a set."""
    sums = {(0,) * length}
    for row in rows:
        sums = {tuple((a + k * b) % p for a, b in zip(one, row)) for one in sums for k in range(p)}
    return sums


def all_rows(p, length):
    return list(itertools.product(range(p), repeat=length))


def product(p, one, other):
    return sum(a * b for a, b in zip(one, other)) % p


def random_rows(seed, p, count, length):
    source = random.Random(seed)
    return [tuple(source.randrange(p) for _ in range(length)) for _ in range(count)]


def faults_of_reduced(rows):
    """Which of the properties of a reduced list [4] these rows lack."""
    faults = []
    if type(rows) is not tuple or any(type(row) is not tuple for row in rows):
        faults.append("kind")
    if not all(type(number) is int for row in rows for number in row):
        faults.append("number")
    if not all(any(row) for row in rows):
        return faults + ["nought"]
    leads = [next(k for k, number in enumerate(row) if number) for row in rows]
    if any(row[lead] != 1 for row, lead in zip(rows, leads)):
        faults.append("one")
    if any(a >= b for a, b in zip(leads, leads[1:])):
        faults.append("step")
    if any(sum(1 for row in rows if row[lead]) != 1 for lead in leads):
        faults.append("lone")
    return faults


def box_pairs(p, word, number=None):
    """What a box lets by, word for word as in [8]: pairs of a left and a right row."""
    every = range(p)
    return {
        "id": lambda: {((a,), (a,)) for a in every},
        "swap": lambda: {((a, b), (b, a)) for a in every for b in every},
        "copy": lambda: {((a,), (a, a)) for a in every},
        "end": lambda: {((a,), ()) for a in every},
        "add": lambda: {((a, b), ((a + b) % p,)) for a in every for b in every},
        "none": lambda: {((), (0,))},
        "times": lambda: {((a,), (number * a % p,)) for a in every},
        "cup": lambda: {((), (a, a)) for a in every},
        "empty": lambda: {((), ())},
    }[word]()


def pairs_at(p, words, at):
    """What the drawing that begins at a word lets by, and where it ends."""
    word = words[at]
    if word == "times":
        return box_pairs(p, word, words[at + 1]), at + 2
    if word == "back":
        pairs, end = pairs_at(p, words, at + 1)
        return {(right, left) for left, right in pairs}, end
    if word in ("beside", "then"):
        one, middle = pairs_at(p, words, at + 1)
        other, end = pairs_at(p, words, middle)
        if word == "beside":
            return {(a + c, b + d) for a, b in one for c, d in other}, end
        behind = {}
        for left, right in other:
            behind.setdefault(left, []).append(right)
        return {(left, right) for left, between in one for right in behind.get(between, [])}, end
    return box_pairs(p, word), at + 1


def let_by(p, words):
    """All rows that a drawing lets by, as a set."""
    pairs, end = pairs_at(p, words, 0)
    assert end == len(words)
    return {left + right for left, right in pairs}


LEAVES = {
    (0, 0): ["empty", "back empty"], (1, 0): ["end", "back none"], (0, 1): ["none", "back end"],
    (1, 1): ["id", "times", "back times", "back id"], (2, 0): ["back cup"], (0, 2): ["cup"],
    (1, 2): ["copy", "back add"], (2, 1): ["add", "back copy"], (2, 2): ["swap", "back swap"],
}


def random_drawing(source, p, left, right, depth):
    """A drawing with these wires, its parts with at most three to a side more."""
    choice = source.randrange(5) if depth else 0
    if choice == 0 and (left, right) in LEAVES:
        leaf = tuple(source.choice(LEAVES[left, right]).split())
        return leaf + (source.randrange(p),) if leaf[-1] == "times" else leaf
    if choice == 1:
        return ("back",) + random_drawing(source, p, right, left, depth - 1)
    lower = max(depth - 1, 0)
    if choice in (2, 3):
        between = source.randrange(4)
        one = random_drawing(source, p, left, between, lower)
        return ("then",) + one + random_drawing(source, p, between, right, lower)
    splits = [(a, b) for a in range(left + 1) for b in range(right + 1) if 0 < a + b < left + right]
    above = source.choice(splits or [(0, 0)])
    one = random_drawing(source, p, above[0], above[1], lower)
    return ("beside",) + one + random_drawing(source, p, left - above[0], right - above[1], lower)


def random_drawings(seed, p, count, side, depth):
    source = random.Random(seed)
    return [
        random_drawing(source, p, source.randrange(side + 1), source.randrange(side + 1), depth)
        for _ in range(count)
    ]


def tree_at(words, at):
    """The drawing that begins at a word, as a tuple of its word and its parts, and where it ends."""
    word = words[at]
    if word == "times":
        return (word, words[at + 1]), at + 2
    parts = ()
    at += 1
    for _ in range({"back": 1, "beside": 2, "then": 2}.get(word, 0)):
        part, at = tree_at(words, at)
        parts += (part,)
    return (word,) + parts, at


def tree_of(words):
    tree, end = tree_at(words, 0)
    assert end == len(words)
    return tree


def words_of_tree(tree):
    flat = ()
    for part in tree:
        flat += words_of_tree(part) if isinstance(part, tuple) else (part,)
    return flat


def places_of_trees(words):
    """All drawings within a drawing, as trees, by the place of their first word."""
    return {at: tree_at(words, at)[0] for at, word in enumerate(words) if isinstance(word, str)}


def tree_sides(tree):
    if tree[0] == "back":
        left, right = tree_sides(tree[1])
        return right, left
    if tree[0] == "beside":
        one, other = tree_sides(tree[1]), tree_sides(tree[2])
        return one[0] + other[0], one[1] + other[1]
    if tree[0] == "then":
        return tree_sides(tree[1])[0], tree_sides(tree[2])[1]
    return SIDES[tree[0]]


def tree_inner(tree):
    """How many inner wires there are [10]."""
    within = sum(tree_inner(part) for part in tree[1:] if isinstance(part, tuple))
    return within + tree_sides(tree[1])[1] if tree[0] == "then" else within


def tree_stands(p, tree, left, right, setting):
    """Whether each box is content, word for word as in [10]; the lengths are those asked for."""
    assert (len(left), len(right)) == tree_sides(tree) and len(setting) == tree_inner(tree)
    if tree[0] == "back":
        return tree_stands(p, tree[1], right, left, setting)
    if tree[0] in ("beside", "then"):
        one, other = tree[1], tree[2]
        a, b = tree_sides(one)
        within = tree_inner(one)
        if tree[0] == "beside":
            return (tree_stands(p, one, left[:a], right[:b], setting[:within])
                    and tree_stands(p, other, left[a:], right[b:], setting[within:]))
        between = setting[within:within + b]
        return (tree_stands(p, one, left, between, setting[:within])
                and tree_stands(p, other, between, right, setting[within + b:]))
    return box_lets_by(p, tree, left + right)


def box_lets_by(p, box, row):
    """Whether a box lets a row by [8]."""
    return {
        "id": lambda a, b: a == b,
        "swap": lambda a, b, c, d: (a, b) == (d, c),
        "copy": lambda a, b, c: a == b == c,
        "end": lambda a: True,
        "add": lambda a, b, c: (a + b) % p == c,
        "none": lambda a: a == 0,
        "times": lambda a, b: box[1] * a % p == b,
        "cup": lambda a, b: a == b,
        "empty": lambda: True,
    }[box[0]](*row)


def stands_by_words(p, words, row, setting):
    tree = tree_of(words)
    left = tree_sides(tree)[0]
    return tree_stands(p, tree, row[:left], row[left:], setting)


def random_sum(source, p, rows, length):
    """A row of the span of the rows."""
    total = (0,) * length
    for row in rows:
        factor = source.randrange(p)
        total = tuple((a + factor * b) % p for a, b in zip(total, row))
    return total


# Boxes by their left wires, of which a layer of a great drawing is made.
LAYERED = {0: ["none", "cup", "back end"], 1: ["id", "copy", "end", "times", "back times", "back add", "back none"],
           2: ["swap", "add", "back copy", "back cup", "back swap"]}


def random_layer(source, p, left, room):
    """A layer with as many left wires, and at most as many right ones as there is room for."""
    while True:
        words, right, rest = (), 0, left
        while rest:
            taken = source.randrange(0, min(rest, 2) + 1)
            box = tuple(source.choice(LAYERED[taken]).split())
            box += (source.randrange(p),) if box[-1] == "times" else ()
            words = ("beside",) + words + box if words else box
            right += tree_sides(tree_of(box))[1]
            rest -= taken
        if left == 0:
            words, right = ("beside", "cup", "none"), 3
        if right <= room:
            return words


def great_drawing(seed, p, length, side=8):
    """A drawing of nearly as many words, no part of which has more wires to a side than told."""
    source = random.Random(seed)
    words = random_layer(source, p, source.randrange(side + 1), side)
    while True:
        left, right = tree_sides(tree_of(words))
        if source.randrange(3) == 0:
            more = ("back",) + random_layer(source, p, left, side)
            longer = ("then",) + more + words
        else:
            longer = ("then",) + words + random_layer(source, p, right, side)
        if source.randrange(4) == 0:
            longer = ("back",) + longer
        if len(longer) > length:
            return ("back",) * (length - len(words)) + words
        words = longer


def row_unlike(source, p, rows, length):
    """A row that is not in the span of a reduced list, or None where all rows are."""
    if len(rows) == length:
        return None
    while True:
        row = tuple(source.randrange(p) for _ in range(length))
        leads = [next(k for k, number in enumerate(one) if number) for one in rows]
        asked = tuple(sum(row[lead] * one[k] for lead, one in zip(leads, rows)) % p for k in range(length))
        if asked != row:
            return row
