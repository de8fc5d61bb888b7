"""What the tests hold machines against: ticks, runs and comparisons carried out by trying everything."""

import itertools
import random

from bentwires.drawn import drawn
from tests.oracle import LEAVES, all_rows, box_pairs, product, span, tree_of, tree_sides


def tick_tuples(p, tree):
    """All tuples (left, right, kept, onward) of rows that can stand in a tick of a drawing, word for word as in [16]."""
    if tree[0] == "late":
        return {((b,), (a,), (a,), (b,)) for a in range(p) for b in range(p)}
    if tree[0] == "back":
        return {(right, left, kept, onward) for left, right, kept, onward in tick_tuples(p, tree[1])}
    if tree[0] in ("beside", "then"):
        one, other = tick_tuples(p, tree[1]), tick_tuples(p, tree[2])
        if tree[0] == "beside":
            return {tuple(a + b for a, b in zip(above, below)) for above in one for below in other}
        behind = {}
        for left, right, kept, onward in other:
            behind.setdefault(left, []).append((right, kept, onward))
        return {(left, right, kept + more, onward + later) for left, between, kept, onward in one
                for right, more, later in behind.get(between, [])}
    return {pair + ((), ()) for pair in box_pairs(p, *tree)}


def tick_rows(p, words):
    """All tick rows of a drawing, as a set."""
    return {left + kept + right + onward for left, right, kept, onward in tick_tuples(p, tree_of(words))}


def after_given(p, words):
    """What can follow each left row and row kept: a dict of lists of tuples (right, onward)."""
    lefts, states = all_rows(p, tree_sides(tree_of(words))[0]), all_rows(p, words.count("late"))
    found = {(left, kept): [] for left in lefts for kept in states}
    for left, right, kept, onward in tick_tuples(p, tree_of(words)):
        found[left, kept].append((right, onward))
    return found


def follows(p, words):
    """What follows each left row and row kept: a dict of (right, onward), or None where it is not just one."""
    found = after_given(p, words)
    if any(len(after) != 1 for after in found.values()):
        return None
    return {given: after[0] for given, after in found.items()}


LATE_LEAVES = {**LEAVES, (1, 1): ["late", "back late", "late", "id", "times", "back times"]}


def random_part(source, p, left, right, depth):
    """A drawing with these wires, and perhaps with `late`."""
    choice = source.randrange(5) if depth else 0
    if choice == 0 and (left, right) in LATE_LEAVES:
        leaf = tuple(source.choice(LATE_LEAVES[left, right]).split())
        return leaf + (source.randrange(p),) if leaf[-1] == "times" else leaf
    lower = max(depth - 1, 0)
    if choice == 1:
        return ("back",) + random_part(source, p, right, left, lower)
    if choice in (2, 3):
        between = source.randrange(3)
        return ("then",) + random_part(source, p, left, between, lower) + random_part(
            source, p, between, right, lower)
    splits = [(a, b) for a in range(left + 1) for b in range(right + 1) if 0 < a + b < left + right]
    above = source.choice(splits or [(0, 0)])
    one = random_part(source, p, above[0], above[1], lower)
    return ("beside",) + one + random_part(source, p, left - above[0], right - above[1], lower)


def waiting_drawings(seed, p, count, side, depth, room):
    """As many drawings with `late`, of which each has at most as many as there is room for."""
    source = random.Random(seed)
    told = []
    while len(told) < count:
        words = random_part(source, p, source.randrange(side + 1), source.randrange(side + 1), depth)
        if 1 <= words.count("late") <= room:
            told.append(words)
    return told


def random_machine(source, p, left, states, right, nought=0):
    """A machine; the greater nought is, the more of its factors are 0."""
    rows = tuple(
        tuple(0 if source.random() < nought else source.randrange(p) for _ in range(left + states))
        for _ in range(right + states))
    return (left, states, right, rows)


def beside_all(parts):
    """The parts beside one another, as words."""
    parts = [part for part in parts if part]
    return ("beside",) * (len(parts) - 1) + sum(parts, ()) if parts else ("empty",)


def looped(words, left, right):
    """A drawing with its last right wire bent back to its last left one; left and right are the wires that stay."""
    ahead = beside_all([("id",)] * left + [("cup",)])
    behind = beside_all([("id",)] * right + [("back", "cup")])
    return ("then",) + ahead + ("then", "beside") + words + ("id",) + behind


def drawing_of(p, some):
    """A drawing whose machine this is: its sums, a waiting box behind each of its states, and those bent back."""
    left, states, right, rows = some
    graph = [
        tuple(int(k == n) for k in range(left + states)) + tuple(row[n] for row in rows)
        for n in range(left + states)]
    words = ("then",) + drawn(p, graph, left + states, right + states)
    words += beside_all([("id",)] * right + [("late",)] * states)
    for rest in range(states - 1, -1, -1):
        words = looped(words, left + rest, right + rest)
    return words


def step(p, some, row, states):
    """What a machine answers and keeps, by the words of [17]."""
    left, count, right, rows = some
    given = tuple(row) + tuple(states)
    after = tuple(product(p, factors, given) for factors in rows)
    return after[:right], after[right:]


def answered(p, some, asked):
    states = (0,) * some[1]
    told = []
    for row in asked:
        right, states = step(p, some, row, states)
        told.append(right)
    return told


def lone(count, place):
    return tuple(int(k == place) for k in range(count))


def singles(left, most):
    """The lists of left rows of which only the first has a 1, else 0, by length, then by wire."""
    return [[lone(left, wire)] + [(0,) * left] * (length - 1)
            for length in range(1, most + 1) for wire in range(left)]


def first_parting(p, one, other):
    """The list of [19] where the last answers part, or None; by running both with one list after the other."""
    for asked in singles(one[0], one[1] + other[1] + 1):
        if answered(p, one, asked)[-1] != answered(p, other, asked)[-1]:
            return asked
    return None


def any_parting(p, one, other, length):
    """Whether any list of this length parts the last answers."""
    every = all_rows(p, one[0])
    return any(
        answered(p, one, asked)[-1] != answered(p, other, asked)[-1]
        for asked in itertools.product(every, repeat=length))


def pairs_reached(p, one, other):
    """All rows of states of both to which the same lists of left rows lead, as a set."""
    every = all_rows(p, one[0])
    seen = {(0,) * (one[1] + other[1])}
    due = list(seen)
    while due:
        states = due.pop()
        for row in every:
            after = step(p, one, row, states[:one[1]])[1] + step(p, other, row, states[one[1]:])[1]
            if after not in seen:
                seen.add(after)
                due.append(after)
    return seen


def shown_same(p, one, other, paper):
    """Whether a paper shows two machines the same, word for word as in [19]."""
    left, states = one[0], one[1] + other[1]
    if any(len(row) != states for row in paper):
        return False
    spanned = span(p, paper, states)
    given = [((0,) * left, row) for row in paper] + [(lone(left, wire), (0,) * states) for wire in range(left)]
    for row, kept in given:
        first, second = step(p, one, row, kept[:one[1]]), step(p, other, row, kept[one[1]:])
        if first[0] != second[0] or first[1] + second[1] not in spanned:
            return False
    return True


def response(p, some, asked):
    """What a machine answers behind a list, to as many left rows of 0 as it has states, in one row."""
    behind = answered(p, some, asked + [(0,) * some[0]] * some[1])[len(asked):]
    return sum(behind, ())


def rank(p, rows):
    """How many of the rows are no sums of the others, by striking one place after the other."""
    rest, count = [list(row) for row in rows], 0
    while rest:
        head = rest.pop()
        place = next((k for k, number in enumerate(head) if number), None)
        if place is None:
            continue
        count += 1
        turned = pow(head[place], p - 2, p)
        rest = [[(a - row[place] * turned * b) % p for a, b in zip(row, head)] for row in rest]
    return count


def lists_taken(p, some):
    """The lists of left rows that the least machine of [20] is made of."""
    taken = []
    for asked in singles(some[0], some[1] + 1):
        known = [response(p, some, other) for other in taken]
        if rank(p, known + [response(p, some, asked)]) > len(known):
            taken.append(asked)
    return taken


def fewest(p, some):
    """How many state numbers any machine with the same answers must have: the rank of all responses."""
    return rank(p, [response(p, some, asked) for asked in singles(some[0], some[1] + 1)])


def faults_of_least(p, some, told):
    """Which of the words of [20] do not hold of what is told as the least machine of some machine."""
    faults = []
    left, count, right, rows = told
    taken = lists_taken(p, some)
    if (left, count, right) != (some[0], len(taken), some[2]):
        return ["sides"]
    if type(told) is not tuple or type(rows) is not tuple or any(type(row) is not tuple for row in rows):
        faults.append("kind")
    if len(rows) != right + count or any(len(row) != left + count for row in rows):
        return faults + ["lengths"]
    known = [response(p, some, asked) for asked in taken]
    length = some[1] * right
    # Each state number by itself stands for one list that is taken; what follows it must be the sum told of it.
    given = [(lone(left, wire), (0,) * count, [lone(left, wire)]) for wire in range(left)]
    given += [((0,) * left, lone(count, n), asked + [(0,) * left]) for n, asked in enumerate(taken)]
    for row, kept, asked in given:
        right_row, onward = step(p, told, row, kept)
        if right_row != answered(p, some, asked)[-1]:
            faults.append("answer")
        meant = tuple(sum(k * other[n] for k, other in zip(onward, known)) % p for n in range(length))
        if meant != response(p, some, asked):
            faults.append("state")
    return faults


def other_states(source, p, some):
    """A machine with the same answers: its states are named anew, by sums of one another."""
    left, states, right, rows = some
    for _ in range(4 * states * (states > 1)):
        one, other = source.sample(range(states), 2)
        factor = source.randrange(p)
        # State `one` from here on is kept with `factor` times state `other` added.
        kept = [tuple(number if k != left + other else (number - factor * row[left + one]) % p
                      for k, number in enumerate(row)) for row in rows]
        added = tuple((a + factor * b) % p for a, b in zip(kept[right + one], kept[right + other]))
        rows = tuple(added if n == right + one else row for n, row in enumerate(kept))
    return (left, states, right, rows)


def with_idle_states(source, p, some, unheard, unreached):
    """A machine with the same answers and more states: some that are never answered, and some never reached."""
    left, states, right, rows = some
    more = unheard + unreached
    told = []
    for n, row in enumerate(rows):
        told.append(row + (0,) * unheard + tuple(source.randrange(p) for _ in range(unreached)))
    for _ in range(unheard):
        told.append(tuple(source.randrange(p) for _ in range(left + states + more)))
    for _ in range(unreached):
        told.append((0,) * (left + states + unheard) + tuple(source.randrange(p) for _ in range(unreached)))
    return (left, states + more, right, tuple(told))
