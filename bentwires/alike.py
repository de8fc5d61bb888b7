"""Drawings compared: shown to let by the same rows, or parted by a row."""

from bentwires.errors import BadSides
from bentwires.plain import plain
from bentwires.rows import factors_of
from bentwires.words import wires


def compared(p, one, other):
    """("same",), or ("parted", row, which) with a row that just one of two drawings lets by, and which one it is."""
    refuse_sides(wires(one), wires(other))
    first = plain(p, one)
    second = plain(p, other)
    if first == second:
        return ("same",)
    row = row_outside(p, first, second)
    if row is not None:
        return ("parted", row, 0)
    return ("parted", row_outside(p, second, first), 1)


def refuse_sides(one, other):
    """Refuses two things that have not as many wires on each side, told of each as (left, right)."""
    if one != other:
        raise BadSides("the two have not as many wires on each side")


def row_outside(p, rows, others):
    """The first of the rows that is not in the span of the others, or None."""
    for row in rows:
        if factors_of(p, others, row) is None:
            return row
    return None
