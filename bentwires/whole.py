"""The whole: texts read and compared, or run."""

from bentwires.alike import compared, refuse_sides
from bentwires.ever import same_ever
from bentwires.machines import machine, run
from bentwires.words import read, wires


def told(p, one, other):
    """What is told of two texts: as drawings where neither has `late`, else as machines."""
    first = read(p, one)
    second = read(p, other)
    if "late" not in first + second:
        return compared(p, first, second)
    refuse_sides(wires(first), wires(second))
    return same_ever(p, machine(p, first), machine(p, second))


def answers(p, text, asked):
    """The right rows that a text's machine answers to left rows."""
    return run(p, machine(p, read(p, text)), asked)
