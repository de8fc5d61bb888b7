"""Drawings drawn from a plain form."""

from bentwires.rows import columns


def drawn(p, rows, left, right):
    """A drawing with as many left and right wires, whose plain form is a reduced list of rows."""
    count = len(rows)
    # A factor for each row, at the wires between, tells a sum of the rows: its left numbers and its right ones.
    sums = columns(rows, left + right)
    return ("then", "back") + summing(sums[:left], count) + summing(sums[left:], count)


def summing(sums, count):
    """A drawing whose right numbers are sums of its left ones, for each right wire told by a factor for each left one.

    It is parted into smaller ones: where it can be, into two that lie beside one another; else its sums are dealt out,
    or what they sum is, whichever are more.
    """
    if count + len(sums) < 2 or (count == 1 and len(sums) == 1 and sums[0][0] != 0):
        return single(sums, count)
    seam = seam_of(sums, count)
    if seam is not None:
        above = summing([row[:seam[0]] for row in sums[:seam[1]]], seam[0])
        return ("beside",) + above + summing([row[seam[0]:] for row in sums[seam[1]:]], count - seam[0])
    if len(sums) >= count:
        half = len(sums) // 2
        return ("then",) + copying(count) + ("beside",) + summing(sums[:half], count) + summing(sums[half:], count)
    half = count // 2
    above = summing([row[:half] for row in sums], half)
    return ("then", "beside") + above + summing([row[half:] for row in sums], count - half) + adding(len(sums))


def single(sums, count):
    """The drawing of `summing` with at most one wire to each side, and a factor that is not 0 where it has both."""
    if not sums:
        return ("end",) if count == 1 else ("empty",)
    if count == 0:
        return ("none",)
    return ("id",) if sums[0][0] == 1 else ("times", sums[0][0])


def seam_of(sums, count):
    """How many left wires and sums can lie by themselves above the others, or None where none can."""
    for wires in range(count + 1):
        for taken in range(len(sums) + 1):
            if 0 < wires + taken < count + len(sums) and is_seam(sums, wires, taken):
                return (wires, taken)
    return None


def is_seam(sums, wires, taken):
    """Whether the first sums take none but the first left wires, and the others none of these."""
    return not any([any(row[wires:]) for row in sums[:taken]] + [any(row[:wires]) for row in sums[taken:]])


def copying(count):
    """A drawing that copies a row of numbers, the one copy above the other."""
    if count == 1:
        return ("copy",)
    half = count // 2
    rest = count - half
    return ("then", "beside") + copying(half) + copying(rest) + inside(half, crossing(half, rest), rest)


def adding(count):
    """A drawing that adds up two rows of as many numbers, the one above the other."""
    if count == 1:
        return ("add",)
    half = count // 2
    rest = count - half
    return ("then",) + inside(half, crossing(rest, half), rest) + ("beside",) + adding(half) + adding(rest)


def crossing(above, below):
    """A drawing that exchanges as many wires above with as many below."""
    if above < below:
        return ("back",) + crossing(below, above)
    if above == 1:
        return ("swap",)
    half = above // 2
    rest = above - half
    lower = ("beside",) + straight(half) + crossing(rest, below)
    return ("then",) + lower + ("beside",) + crossing(half, below) + straight(rest)


def inside(above, words, below):
    """A drawing between as many straight wires above and below it."""
    return ("beside",) + straight(above) + ("beside",) + words + straight(below)


def straight(count):
    """As many straight wires beside one another, at least one."""
    return ("beside",) * (count - 1) + ("id",) * count
