"""The plain form of a drawing: the reduced list of the rows that it lets by."""

from bentwires.errors import Late
from bentwires.rows import reduced
from bentwires.words import folded, wires

# The reduced list of what each box lets by; that of `times` hangs on its number.
BOX_ROWS = {
    "id": ((1, 1),),
    "swap": ((1, 0, 0, 1), (0, 1, 1, 0)),
    "copy": ((1, 1, 1),),
    "end": ((1,),),
    "add": ((1, 0, 1), (0, 1, 1)),
    "none": (),
    "cup": ((1, 1),),
    "empty": (),
}


def plain(p, words):
    """The plain form of a drawing without `late`."""
    if "late" in words:
        raise Late("a drawing with late has no plain form")
    return folded(words, lambda place, word, parts: form(p, word, parts))[2]


def form(p, word, parts):
    """A tuple (left, right, rows) of the wires and the plain form of a drawing, by those of its parts."""
    if word == "back":
        return form_of_back(p, parts[0])
    if word == "beside":
        return form_of_beside(p, parts[0], parts[1])
    if word == "then":
        return form_of_then(p, parts[0], parts[1])
    if word == "times":
        return (1, 1, ((1, parts[0]),))
    return wires((word,)) + (BOX_ROWS[word],)


def form_of_back(p, one):
    """The form of a drawing turned about."""
    left = one[0]
    return (one[1], left, reduced(p, [row[left:] + row[:left] for row in one[2]]))


def form_of_beside(p, one, other):
    """The form of a drawing above another one."""
    above = [row[:one[0]] + (0,) * other[0] + row[one[0]:] + (0,) * other[1] for row in one[2]]
    below = [(0,) * one[0] + row[:other[0]] + (0,) * one[1] + row[other[0]:] for row in other[2]]
    return (one[0] + other[0], one[1] + other[1], reduced(p, above + below))


def form_of_then(p, one, other):
    """The form of a drawing with another one behind it."""
    left = one[0]
    between = one[1]
    ahead = [row[left:] + row[:left] + (0,) * other[1] for row in one[2]]
    behind = [tuple([-number % p for number in row[:between]]) + (0,) * left + row[between:] for row in other[2]]
    # A sum of these rows has noughts at the wires between just where both drawings have the same numbers there.
    # In a reduced list the rows that begin with these noughts span all such sums, and are reduced themselves.
    met = [row[between:] for row in reduced(p, ahead + behind) if not any(row[:between])]
    return (left, other[1], tuple(met))
