"""The least machine with the same answers as a machine."""

from bentwires.machines import reached, ticked
from bentwires.rows import columns, ones, products, reduced, summed


def least(p, some):
    """The least machine of a machine."""
    left = some[0]
    heard = hearing(p, some)
    taken = [way[1] for way in reached(p, some, lambda states: products(p, heard, states))]
    count = len(taken)
    looks = [products(p, heard, states) for states in taken + followers(p, some, taken)]
    # The responses taken are no sums of one another and all others are sums of them: so the reduced list has a row for
    # each taken, and behind what leads it the factor that this one has in each of the others.
    onward = [row[count:] for row in reduced(p, columns(looks, len(heard)))]
    answers = [row[:left] + products(p, taken, row[left:]) for row in some[3][:some[2]]]
    return (left, count, some[2], tuple(answers + onward))


def hearing(p, some):
    """The reduced list of the sums of its states that a machine answers, tick by tick, to left rows of 0.

    As many ticks as the machine has states are enough: what it answers later is a sum of these.
    """
    states = [row[some[0]:] for row in some[3][some[2]:]]
    answers = [row[some[0]:] for row in some[3][:some[2]]]
    rows = []
    for tick in range(some[1]):
        rows = rows + answers
        answers = [summed(p, states, row, some[1]) for row in answers]
    return reduced(p, rows)


def followers(p, some, taken):
    """The states that follow all 0 for each left row with one 1, then those that follow the ones taken."""
    still = (0,) * some[0]
    begun = [ticked(p, some, row, (0,) * some[1])[1] for row in ones(some[0])]
    return begun + [ticked(p, some, still, states)[1] for states in taken]
