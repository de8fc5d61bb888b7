"""Machines: drawings with boxes that wait a tick, and how they run."""

from bentwires.errors import NoRun
from bentwires.plain import form
from bentwires.rows import columns, first_place, led, ones, products, reduced, rest_of
from bentwires.words import SIDES, folded, wires


def ticks(p, words):
    """The reduced list of the tick rows of a drawing."""
    waiting = words.count("late")
    whole = folded(words, lambda place, word, parts: tick_form(p, words, place, parts))
    left = whole[0]
    kept = left + whole[1]
    onward = kept + waiting
    return reduced(p, [row[:left] + row[kept:onward] + row[left:kept] + row[onward:] for row in whole[2]])


def tick_form(p, words, place, parts):
    """The form of the drawing at a place in a tick, by those of its parts.

    Behind the numbers at its wires a row has those that all waiting boxes of the whole drawing keep, then those that
    they keep from then on: so each of them has its own places, wherever it stands and however it is turned.
    """
    word = words[place]
    waiting = words.count("late")
    if word == "late":
        count = words[:place].count("late")
        states = ones(2 * waiting)
        return (1, 1, ((1, 0) + states[waiting + count], (0, 1) + states[count]))
    told = form(p, word, parts)
    if word in SIDES:
        return told[:2] + (tuple([row + (0,) * (2 * waiting) for row in told[2]]),)
    return told


def machine(p, words):
    """The machine (left, states, right, rows) that a drawing is."""
    sides = wires(words)
    states = words.count("late")
    given = sides[0] + states
    rows = ticks(p, words)
    # A reduced list begins so just where a sum of its rows can have all numbers there, and these tell which sum it is.
    if [row[:given] for row in rows] != ones(given):
        raise NoRun("what stands to the left and what is kept do not tell what follows")
    return (sides[0], states, sides[1], columns([row[given:] for row in rows], sides[1] + states))


def run(p, some, asked):
    """The right rows that a machine answers to left rows, a row a tick, from states all 0."""
    told = []
    states = (0,) * some[1]
    for row in asked:
        tick = ticked(p, some, row, states)
        told.append(tick[0])
        states = tick[1]
    return told


def ticked(p, some, row, states):
    """A tuple of the right row that a machine answers to a left row, and the states that it keeps from then on."""
    numbers = products(p, some[3], row + states)
    return (numbers[:some[2]], numbers[some[2]:])


def reached(p, some, looked):
    """Where lists of left rows of which only the first has a 1 lead a machine: a list of tuples (asked, states).

    They come by the length of the list, then by the wire of the 1. Left out are those for which looked(states), a row,
    is a sum of those of the ones taken ahead. It must be so that the same then holds a tick later: so those left out
    need not be followed.
    """
    still = (0,) * some[0]
    due = [([row], ticked(p, some, row, (0,) * some[1])[1]) for row in ones(some[0])]
    steps = []
    taken = []
    while due:
        way = due.pop(0)
        rest = rest_of(p, steps, looked(way[1]))
        if any(rest):
            steps.append(led(p, rest, first_place(rest)))
            taken.append(way)
            due.append((way[0] + [still], ticked(p, some, still, way[1])[1]))
    return taken
