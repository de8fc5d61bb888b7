"""Settings and bars: what shows that a row is let by, or that it is not."""

from bentwires.plain import facing, form, forms, plain, refuse_late
from bentwires.rows import barred, factors_of, product, summed
from bentwires.words import SIDES, all_folded, ends, folded, joined_sides


def inner(words):
    """How many inner wires a drawing has."""
    return folded(words, size)[2]


def stands(p, words, row, setting):
    """Whether each box by itself is let by, with a row at a drawing's own wires and a setting at its inner ones."""
    refuse_late(words)
    if len(setting) != inner(words):
        return False
    numbers = tuple(row) + tuple(setting)
    lying = laid(words)
    boxes = [place for place in lying if words[place] in SIDES]
    return all([content(p, words, place, at_wires(numbers, lying[place])) for place in boxes])


def setting(p, words, row):
    """A setting with which a row stands, or None where there is none."""
    told = forms(p, words)
    if factors_of(p, told[0][2], row) is None:
        return None
    lying = laid(words)
    behind = ends(words)
    numbers = list(row) + [0] * inner(words)
    # An outer `then` comes ahead of those within it, so the numbers round each of them are known when it is reached.
    for place in sorted(lying):
        if words[place] == "then":
            second = behind[place + 1]
            found = met(p, told[place + 1], told[second], at_wires(numbers, lying[place]))
            for wire, number in zip(lying[second][0], found):
                numbers[wire] = number
    return tuple(numbers[len(row):])


def bar(p, words, row):
    """A row that has product 0 with all that a drawing lets by, but not with this row; None where there is none."""
    for other in barred(p, plain(p, words), len(row)):
        if product(p, other, row) != 0:
            return other
    return None


def size(place, word, parts):
    """How many wires a drawing has to the left, to the right and within, by how many its parts have."""
    if word in SIDES:
        return SIDES[word] + (0,)
    between = parts[0][1] if word == "then" else 0
    return joined_sides(word, parts) + (between + sum([part[2] for part in parts]),)


def laid(words):
    """How each drawing within a drawing lies, by the place of its first word: a tuple (left, right, start).

    All wires are counted in one row, the drawing's own as in a row of it, then the inner ones as in a setting: left
    and right are the wires to its sides, and its own inner wires are counted from start on.
    """
    sizes = all_folded(words, size)
    behind = ends(words)
    left = sizes[0][0]
    start = left + sizes[0][1]
    lying = {0: (tuple(range(left)), tuple(range(left, start)), start)}
    for place in sorted(sizes):
        first = place + 1
        if words[place] == "back":
            whole = lying[place]
            lying[first] = (whole[1], whole[0], whole[2])
        if words[place] in ("beside", "then"):
            parts = laid_parts(words[place], lying[place], sizes[first])
            lying[first] = parts[0]
            lying[behind[first]] = parts[1]
    return lying


def laid_parts(word, whole, one):
    """How the two parts of a `beside` or a `then` lie, by how it lies itself and the size of the first part."""
    return laid_beside(whole, one) if word == "beside" else laid_then(whole, one)


def laid_beside(whole, one):
    """How the two parts of a `beside` lie."""
    above = (whole[0][:one[0]], whole[1][:one[1]], whole[2])
    below = (whole[0][one[0]:], whole[1][one[1]:], whole[2] + one[2])
    return (above, below)


def laid_then(whole, one):
    """How the two parts of a `then` lie."""
    start = whole[2] + one[2]
    between = tuple(range(start, start + one[1]))
    return ((whole[0], between, whole[2]), (between, whole[1], start + one[1]))


def at_wires(numbers, lying):
    """The row of a drawing, by the numbers at all wires and how the drawing lies."""
    return tuple([numbers[wire] for wire in lying[0] + lying[1]])


def content(p, words, place, row):
    """Whether the box at a place lets a row by."""
    # The word behind a box is a part of it where the box is `times`; any other box asks for no part.
    rows = form(p, words[place], words[place + 1:place + 2])[2]
    return factors_of(p, rows, row) is not None


def met(p, one, other, row):
    """Numbers between two forms, one behind the other, with which both let by what a row of the whole has there."""
    factors = factors_of(p, facing(p, one, other), (0,) * one[1] + row)
    # The factors of the first one's rows come first, and those alone are asked for here.
    return summed(p, [some[one[0]:] for some in one[2]], factors, one[1])
