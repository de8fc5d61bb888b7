"""Rows of numbers of a prime p: their sums, reduced lists, factors and the rows that they bar."""


def turned(p, number):
    """The number whose product with this one, which is not 0, is 1."""
    power = 1
    # A number taken p - 1 times as a factor comes to 1, so one time less comes to what is asked.
    for step in range(p - 2):
        power = power * number % p
    return power


def added(p, row, factor, other):
    """The row, with the other one added to it, that one taken with a factor."""
    return tuple([(number + factor * more) % p for number, more in zip(row, other)])


def summed(p, rows, factors, length):
    """The sum of the rows with their factors; the length is asked for the sum of no rows."""
    total = (0,) * length
    for row, factor in zip(rows, factors):
        total = added(p, total, factor, row)
    return total


def product(p, row, other):
    """The product of two rows: number by number, added up."""
    return sum([number * more for number, more in zip(row, other)]) % p


def products(p, rows, other):
    """The product of each of the rows with another row."""
    return tuple([product(p, row, other) for row in rows])


def ones(count):
    """The rows of as many numbers with one 1 and else 0 only, by the place of the 1."""
    return [(0,) * place + (1,) + (0,) * (count - place - 1) for place in range(count)]


def columns(rows, length):
    """The numbers of the rows at each place, as rows of their own; the length is asked for the places of no rows."""
    return tuple([tuple([row[place] for row in rows]) for place in range(length)])


def reduced(p, rows):
    """The one list with the span of these rows that stands in steps, each step a lone 1."""
    done = []
    rest = list(rows)
    length = len(rest[0]) if rest else 0
    for place in range(length):
        heads = [row for row in rest if row[place] != 0]
        if heads:
            lead = led(p, heads[0], place)
            done = [cleared(p, row, lead, place) for row in done] + [lead]
            # The head itself becomes noughts here, so it is not taken a second time.
            rest = [cleared(p, row, lead, place) for row in rest]
    return tuple(done)


def led(p, row, place):
    """The row, taken with the factor that makes a 1 of its number at a place, which is not 0."""
    return summed(p, [row], [turned(p, row[place])], len(row))


def cleared(p, row, lead, place):
    """The row, brought to 0 at a place by a row that has a 1 there."""
    # Most rows are 0 there already, and working these out again is what would take long.
    return added(p, row, -row[place], lead) if row[place] != 0 else row


def first_place(row):
    """The place of a row's first number that is not 0."""
    return [place for place, number in enumerate(row) if number != 0][0]


def rest_of(p, steps, row):
    """What is left of a row by steps: noughts just where it is in their span.

    Steps are rows that each begin with a 1, and are 0 where those ahead begin.
    """
    rest = row
    for step in steps:
        rest = cleared(p, rest, step, first_place(step))
    return rest


def factors_of(p, rows, row):
    """Factors with which the sum of the rows is the row, or None where there are none."""
    count = len(rows)
    # One row for each place: what the unknown factors are taken with there, and what they must come to.
    asked = [tuple([other[place] for other in rows]) + (number,) for place, number in enumerate(row)]
    factors = [0] * count
    for known in reduced(p, asked):
        place = first_place(known)
        if place == count:
            return None
        # The factors that lead no row are left 0, so each that leads one is told by that row alone.
        factors[place] = known[count]
    return tuple(factors)


def barred(p, rows, length):
    """The reduced list of all rows of this length whose product with each of the rows is 0."""
    steps = reduced(p, rows)
    led = [first_place(row) for row in steps]
    return reduced(p, [barred_row(p, steps, place, length) for place in range(length) if place not in led])


def barred_row(p, steps, place, length):
    """The row that a reduced list bars with 1 at a place where no row begins, and 0 at the other such places."""
    row = [0] * length
    row[place] = 1
    for step in steps:
        row[first_place(step)] = -step[place] % p
    return tuple(row)
