"""Machines compared: shown to have the same answers for ever, or parted by a shortest list of left rows."""

from bentwires.alike import refuse_sides
from bentwires.machines import reached, ticked
from bentwires.rows import added, ones, reduced, rest_of


def same_ever(p, one, other):
    """("same", paper) or ("parted", asked) of two machines."""
    refuse_sides((one[0], one[2]), (other[0], other[2]))
    both = apart(p, one, other)
    still = (0,) * both[0]
    for row in ones(both[0]):
        if any(ticked(p, both, row, (0,) * both[1])[0]):
            return ("parted", [row])
    ways = reached(p, both, lambda states: states)
    for asked, states in ways:
        if any(ticked(p, both, still, states)[0]):
            return ("parted", asked + [still])
    return ("same", reduced(p, [way[1] for way in ways]))


def shows(p, one, other, paper):
    """Whether a list of rows of states of both shows two machines the same."""
    both = apart(p, one, other)
    still = (0,) * both[0]
    if any([len(row) != both[1] for row in paper]):
        return False
    steps = reduced(p, paper)
    after = [ticked(p, both, still, states) for states in paper]
    begun = [ticked(p, both, row, (0,) * both[1]) for row in ones(both[0])]
    return all([not any(tick[0]) and not any(rest_of(p, steps, tick[1])) for tick in after + begun])


def apart(p, one, other):
    """The machine with the states of both that answers by what the one's answers differ from the other's."""
    left = one[0]
    right = one[2]
    first = [row + (0,) * other[1] for row in one[3]]
    second = [row[:left] + (0,) * one[1] + row[left:] for row in other[3]]
    answers = [added(p, row, -1, less) for row, less in zip(first[:right], second)]
    return (left, one[1] + other[1], right, tuple(answers + first[right:] + second[right:]))
