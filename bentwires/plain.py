"""The plain form of a drawing: the reduced list of the rows that it lets by."""

from bentwires.errors import Late
from bentwires.rows import reduced
from bentwires.words import all_folded, wires

# The reduced list of what each box lets by; that of `times` hangs on its number.
BOX_ROWS = {
    "id": ((1, 1),),
    "swap": ((1, 0, 0, 1), (0, 1, 1, 0)),
    "copy": ((1, 1, 1),),
    "end": ((1,),),
    "add": ((1, 0, 1), (0, 1, 1)),
    "none": (),
    "cup": ((1, 1),),
    "empty": (),
}


def plain(p, words):
    """The plain form of a drawing without `late`."""
    return forms(p, words)[0][2]


def forms(p, words):
    """The form of each drawing within a drawing without `late`, by the place of its first word."""
    refuse_late(words)
    return all_folded(words, lambda place, word, parts: form(p, word, parts))


def refuse_late(words):
    """Refuses a drawing with `late`."""
    if "late" in words:
        raise Late("a drawing with late does not tell by itself what it lets by")


def form(p, word, parts):
    """A tuple (left, right, rows) of the wires and the plain form of a drawing, by those of its parts.

    Behind the numbers at its wires the rows of a part may have more, as many in all parts: these are carried along,
    each at its place.
    """
    if word == "back":
        return form_of_back(p, parts[0])
    if word == "beside":
        return form_of_beside(p, parts[0], parts[1])
    if word == "then":
        return form_of_then(p, parts[0], parts[1])
    if word == "times":
        return (1, 1, ((1, parts[0]),))
    return wires((word,)) + (BOX_ROWS[word],)


def form_of_back(p, one):
    """The form of a drawing turned about."""
    left = one[0]
    behind = left + one[1]
    return (one[1], left, reduced(p, [row[left:behind] + row[:left] + row[behind:] for row in one[2]]))


def form_of_beside(p, one, other):
    """The form of a drawing above another one."""
    behind = one[0] + one[1]
    above = [row[:one[0]] + (0,) * other[0] + row[one[0]:behind] + (0,) * other[1] + row[behind:] for row in one[2]]
    below = [(0,) * one[0] + row[:other[0]] + (0,) * one[1] + row[other[0]:] for row in other[2]]
    return (one[0] + other[0], one[1] + other[1], reduced(p, above + below))


def form_of_then(p, one, other):
    """The form of a drawing with another one behind it."""
    between = one[1]
    # In a reduced list the rows that begin with noughts at the wires between span all sums that do, and are reduced
    # themselves.
    met = [row[between:] for row in reduced(p, facing(p, one, other)) if not any(row[:between])]
    return (one[0], other[1], tuple(met))


def facing(p, one, other):
    """The rows of two forms, one behind the other: at the wires between, the left wires and the right ones.

    Those of the second are taken with -1 between: so a sum of these rows has noughts there just where both drawings
    have the same numbers there.
    """
    left = one[0]
    between = one[1]
    behind = left + between
    ahead = [row[left:behind] + row[:left] + (0,) * other[1] + row[behind:] for row in one[2]]
    follow = [tuple([-number % p for number in row[:between]]) + (0,) * left + row[between:] for row in other[2]]
    return ahead + follow
