"""Point [19]: two machines shown to be the same for ever, or parted by a shortest list of left rows."""

import random
import unittest

from bentwires.errors import BadSides
from bentwires.ever import same_ever, shows
from bentwires.machines import machine, run
from bentwires.rows import reduced
from bentwires.words import read
from tests.oracle import all_rows, faults_of_reduced, random_sum, row_unlike, span
from tests.ticking import (
    any_parting, first_parting, other_states, pairs_reached, random_machine, shown_same, with_idle_states)

LATE = (1, 1, 1, ((0, 1), (1, 0)))
TWICE = (1, 2, 1, ((0, 0, 1), (1, 0, 0), (0, 1, 0)))


def twins(seed, p, count):
    """Pairs of machines that have the same answers."""
    source = random.Random(seed)
    for _ in range(count):
        nought = source.choice((0, 0.5, 0.8))
        one = random_machine(source, p, source.randrange(3), source.randrange(4), source.randrange(3), nought)
        other = with_idle_states(source, p, other_states(source, p, one), source.randrange(2), source.randrange(2))
        yield (one, other) if source.randrange(2) else (other, one)


def strangers(seed, p, count):
    """Pairs of machines with as many wires, most of which part."""
    source = random.Random(seed)
    for _ in range(count):
        nought = source.choice((0, 0.5, 0.8))
        left, right = source.choice((1, 2, 2, 3)), source.choice((1, 1, 2))
        one = random_machine(source, p, left, source.randrange(4), right, nought)
        other = random_machine(source, p, left, source.randrange(4), right, nought)
        if source.randrange(2):
            other = one[:3] + (changed(source, p, one[3]),)
        yield one, other


def changed(source, p, rows):
    """The rows of a machine with one factor changed."""
    places = [(n, k) for n, row in enumerate(rows) for k in range(len(row))]
    n, k = source.choice(places)
    row = rows[n][:k] + ((rows[n][k] + source.randrange(1, p)) % p,) + rows[n][k + 1:]
    return rows[:n] + (row,) + rows[n + 1:]


def chain(p, length, factor):
    """A machine that answers what it is asked, with a factor, as many ticks later."""
    words = ("then", "late") * length + ("times", factor)
    return machine(p, words)


class SameTest(unittest.TestCase):
    def test_a_machine_and_itself(self):
        # Both come to the same states.
        self.assertEqual(same_ever(5, LATE, LATE), ("same", ((1, 1),)))
        self.assertEqual(same_ever(5, TWICE, TWICE), ("same", ((1, 0, 1, 0), (0, 1, 0, 1))))

    def test_the_paper_has_the_ones_states_then_the_others(self):
        half = (1, 1, 1, ((0, 1), (1, 0)))
        double = (1, 1, 1, ((0, 3), (2, 0)))
        self.assertEqual(same_ever(5, half, double), ("same", ((1, 2),)))
        self.assertEqual(same_ever(5, double, half), ("same", ((1, 3),)))

    def test_states_that_are_never_reached_are_in_no_row(self):
        idle = (1, 2, 1, ((0, 1, 4), (1, 0, 0), (0, 0, 1)))
        self.assertEqual(same_ever(5, LATE, idle), ("same", ((1, 1, 0),)))
        self.assertEqual(same_ever(5, idle, LATE), ("same", ((1, 0, 1),)))

    def test_states_that_are_never_answered_are_in_the_rows(self):
        self.assertEqual(same_ever(5, (1, 1, 1, ((2, 0), (1, 0))), (1, 0, 1, ((2,),))), ("same", ((1,),)))
        # The one keeps all that was asked, added up; the other the last number asked: neither is answered.
        total, last = (1, 1, 1, ((3, 0), (1, 1))), (1, 1, 1, ((3, 0), (1, 0)))
        self.assertEqual(same_ever(5, total, last), ("same", ((1, 0), (0, 1))))

    def test_without_states(self):
        self.assertEqual(same_ever(5, (2, 0, 1, ((2, 3),)), (2, 0, 1, ((2, 3),))), ("same", ()))
        self.assertEqual(same_ever(5, (0, 0, 0, ()), (0, 0, 0, ())), ("same", ()))
        self.assertEqual(same_ever(5, (0, 0, 1, ((),)), (0, 0, 1, ((),))), ("same", ()))

    def test_without_left_wires_both_stay_at_0(self):
        self.assertEqual(same_ever(5, (0, 1, 1, ((1,), (1,))), (0, 2, 1, ((1, 2), (3, 4), (0, 1)))), ("same", ()))
        self.assertEqual(same_ever(5, (0, 1, 1, ((1,), (1,))), (0, 0, 1, ((),))), ("same", ()))

    def test_without_right_wires_all_are_the_same(self):
        self.assertEqual(same_ever(5, (1, 1, 0, ((1, 1),)), (1, 1, 0, ((2, 1),))), ("same", ((1, 2),)))
        self.assertEqual(same_ever(5, (1, 1, 0, ((1, 0),)), (1, 1, 0, ((1, 1),))), ("same", ((1, 0), (0, 1))))
        self.assertEqual(same_ever(5, (1, 0, 0, ()), (1, 0, 0, ())), ("same", ()))

    def test_the_paper_spans_all_pairs_of_states_that_are_reached(self):
        for p in (2, 3, 5):
            great = 0
            for one, other in twins(p, p, 120):
                told = same_ever(p, one, other)
                self.assertEqual((type(told), len(told), told[0]), (tuple, 2, "same"), (one, other))
                self.assertEqual(faults_of_reduced(told[1]), [])
                self.assertTrue(all(len(row) == one[1] + other[1] for row in told[1]))
                self.assertEqual(span(p, told[1], one[1] + other[1]), pairs_reached(p, one, other))
                self.assertIs(shows(p, one, other, told[1]), True)
                great += len(told[1]) > 2
            self.assertGreater(great, 4)

    def test_runs_with_the_same_answers(self):
        for p in (2, 97):
            source = random.Random(p)
            for one, other in twins(30 + p, p, 40):
                asked = [tuple(source.randrange(p) for _ in range(one[0])) for _ in range(60)]
                self.assertEqual(same_ever(p, one, other)[0], "same")
                self.assertEqual(run(p, one, asked), run(p, other, asked))


class PartedTest(unittest.TestCase):
    def test_parted_at_once(self):
        self.assertEqual(same_ever(5, (1, 0, 1, ((2,),)), (1, 0, 1, ((3,),))), ("parted", [(1,)]))
        self.assertEqual(same_ever(5, LATE, (1, 0, 1, ((1,),))), ("parted", [(1,)]))

    def test_parted_later(self):
        self.assertEqual(same_ever(5, LATE, TWICE), ("parted", [(1,), (0,)]))
        self.assertEqual(same_ever(5, LATE, (1, 0, 1, ((0,),))), ("parted", [(1,), (0,)]))
        self.assertEqual(same_ever(5, TWICE, (1, 0, 1, ((0,),))), ("parted", [(1,), (0,), (0,)]))

    def test_parted_as_late_as_can_be(self):
        for p in (2, 97):
            for length in (1, 2, 8, 16, 38):
                one = chain(p, length, 1)
                asked = [(1,)] + [(0,)] * length
                self.assertEqual(same_ever(p, one, chain(p, length, 0)), ("parted", asked))
                self.assertEqual(same_ever(p, chain(p, length, p - 1), (1, 0, 1, ((0,),))), ("parted", asked))
                self.assertEqual(same_ever(p, one, chain(p, length + 1, 1)), ("parted", asked))

    def test_parted_behind_all_states_of_both(self):
        # Behind an asking the one answers 1, 1, 0, 1, 1, 0, 1, the other 1, 1, 0, 1, 1, 0, 0: no two machines with
        # seven states in all can part later.
        one = (1, 2, 1, ((0, 1, 0), (1, 1, 1), (0, 1, 0)))
        other = (1, 5, 1, ((0, 1, 0, 0, 0, 0), (1, 0, 1, 0, 0, 0), (1, 0, 0, 1, 0, 0), (0, 0, 0, 0, 1, 0),
                           (1, 0, 0, 0, 0, 1), (1, 0, 0, 0, 0, 0)))
        self.assertEqual(same_ever(2, one, other), ("parted", [(1,)] + [(0,)] * 7))
        self.assertEqual(run(2, one, [(1,)] + [(0,)] * 6), run(2, other, [(1,)] + [(0,)] * 6))

    def test_the_1_stands_at_the_first_wire_of_those_that_part_soonest(self):
        straight = (3, 0, 1, ((1, 1, 1),))
        self.assertEqual(same_ever(5, straight, (3, 0, 1, ((1, 0, 0),))), ("parted", [(0, 1, 0)]))
        self.assertEqual(same_ever(5, straight, (3, 0, 1, ((1, 1, 0),))), ("parted", [(0, 0, 1)]))
        # The first wire parts too, but a tick later than the second.
        late = (2, 1, 1, ((0, 1, 1), (1, 0, 0)))
        self.assertEqual(same_ever(5, late, (2, 0, 1, ((0, 0),))), ("parted", [(0, 1)]))
        # Both part in the second tick.
        both = (2, 1, 1, ((0, 0, 1), (1, 1, 0)))
        self.assertEqual(same_ever(5, both, (2, 0, 1, ((0, 0),))), ("parted", [(1, 0), (0, 0)]))
        # The first wire leads to states that are never answered, or only later than those of the third.
        later = (3, 3, 1, ((0, 0, 0, 0, 0, 1), (0, 1, 0, 0, 0, 0), (1, 0, 0, 0, 0, 0), (0, 0, 1, 0, 1, 0)))
        self.assertEqual(same_ever(5, later, (3, 0, 1, ((0, 0, 0),))), ("parted", [(0, 0, 1), (0, 0, 0)]))

    def test_what_a_wire_shares_with_those_ahead_parts_at_the_first_of_them(self):
        # The second wire leads to twice the states of the first: so the first one is told.
        shared = (2, 2, 1, ((0, 0, 0, 1), (1, 2, 0, 0), (0, 0, 1, 0)))
        self.assertEqual(same_ever(5, shared, (2, 0, 1, ((0, 0),))), ("parted", [(1, 0), (0, 0), (0, 0)]))

    def test_the_last_answers_alone_part(self):
        for p in (2, 3, 97):
            for one, other in strangers(40 + p, p, 60):
                told = same_ever(p, one, other)
                if told[0] == "parted":
                    first, second = run(p, one, told[1]), run(p, other, told[1])
                    self.assertNotEqual(first[-1], second[-1])
                    self.assertEqual(first[:-1], second[:-1])

    def test_as_short_as_any_list_of_left_rows(self):
        for p in (2, 3):
            parted = {}
            for one, other in strangers(p, p, 250):
                told, asked = same_ever(p, one, other), first_parting(p, one, other)
                if asked is None:
                    self.assertEqual(told[0], "same")
                    continue
                self.assertEqual(told, ("parted", asked), (one, other))
                self.assertEqual((type(told), type(told[1]), type(told[1][0])), (tuple, list, tuple))
                parted[len(asked)] = parted.get(len(asked), 0) + 1
                if len(asked) > 1 and p ** (one[0] * (len(asked) - 1)) < 300:
                    self.assertFalse(any_parting(p, one, other, len(asked) - 1))
            self.assertTrue(all(parted.get(length, 0) > 3 for length in (1, 2, 3)), parted)

    def test_either_of_two_is_parted_by_the_same(self):
        for one, other in strangers(50, 5, 100):
            told, again = same_ever(5, one, other), same_ever(5, other, one)
            self.assertEqual(told[0], again[0])
            if told[0] == "parted":
                self.assertEqual(told, again)


class BadSidesTest(unittest.TestCase):
    def test_not_as_many_wires(self):
        for one, other in ((("id",), ("copy",)), (("id",), ("add",)), (("late",), ("end",)), (("none",), ("empty",)),
                           (("late",), ("beside", "late", "late")), (("copy",), ("add",))):
            for first, second in ((one, other), (other, one)):
                with self.assertRaises(BadSides):
                    same_ever(5, machine(5, first), machine(5, second))

    def test_states_may_be_of_any_number(self):
        self.assertEqual(same_ever(5, (1, 0, 1, ((0,),)), (1, 3, 1, ((0, 0, 0, 0),) * 4))[0], "same")

    def test_as_many_wires_in_all_are_not_enough(self):
        with self.assertRaises(BadSides):
            same_ever(5, (1, 0, 2, ((1,), (1,))), (2, 0, 1, ((1, 1),)))
        with self.assertRaises(BadSides):
            same_ever(5, (0, 0, 1, ((),)), (1, 0, 0, ()))


class ShowsTest(unittest.TestCase):
    def test_the_told_paper(self):
        self.assertIs(shows(5, LATE, LATE, ((1, 1),)), True)
        self.assertIs(shows(5, LATE, LATE, [(1, 1)]), True)

    def test_any_list_with_the_same_span(self):
        self.assertIs(shows(5, LATE, LATE, [(3, 3)]), True)
        self.assertIs(shows(5, LATE, LATE, [(0, 0), (3, 3), (1, 1)]), True)
        self.assertIs(shows(5, TWICE, TWICE, [(1, 4, 1, 4), (0, 2, 0, 2)]), True)

    def test_the_answers_of_a_row_must_be_the_same(self):
        self.assertIs(shows(5, LATE, LATE, [(1, 0), (0, 1)]), False)
        self.assertIs(shows(5, LATE, LATE, [(1, 1), (1, 2)]), False)

    def test_what_follows_a_row_must_be_in_the_span(self):
        # (1, 0, 1, 0) is followed by (0, 1, 0, 1), whose answers are the same as well.
        self.assertIs(shows(5, TWICE, TWICE, [(1, 0, 1, 0)]), False)
        self.assertIs(shows(5, TWICE, TWICE, [(1, 0, 1, 0), (0, 1, 0, 1)]), True)

    def test_what_follows_all_0_must_be_in_the_span(self):
        self.assertIs(shows(5, LATE, LATE, []), False)
        self.assertIs(shows(5, TWICE, TWICE, [(0, 1, 0, 1)]), False)
        # The first wire leads to the first state, the second to the second one.
        two = (2, 2, 1, ((0, 0, 1, 1), (1, 0, 0, 0), (0, 1, 0, 0)))
        self.assertIs(shows(5, two, two, [(1, 0, 1, 0)]), False)
        self.assertIs(shows(5, two, two, [(0, 1, 0, 1)]), False)
        self.assertIs(shows(5, two, two, [(1, 0, 1, 0), (0, 1, 0, 1)]), True)

    def test_the_answers_to_left_rows_must_be_the_same(self):
        self.assertIs(shows(5, (1, 0, 1, ((1,),)), (1, 0, 1, ((2,),)), []), False)
        self.assertIs(shows(5, (2, 0, 1, ((1, 1),)), (2, 0, 1, ((1, 2),)), ()), False)
        self.assertIs(shows(5, (1, 1, 1, ((1, 1), (1, 0))), LATE, [(1, 1)]), False)

    def test_rows_of_another_length(self):
        for paper in ([(1,)], [(1, 1, 0)], [()], [(1, 1), (1,)], [(1, 1), (1, 1, 0)], [(1, 1), ()], [(0,)],
                      [(1, 1), (0, 0, 0)], [(0, 0, 0), (1, 1)], [(0, 0, 0)]):
            self.assertIs(shows(5, LATE, LATE, paper), False, paper)
            self.assertIs(shows(5, LATE, LATE, tuple(paper)), False, paper)
        # All that is asked of them is so, but that the rows are of one number and there are no states.
        still = (1, 0, 1, ((2,),))
        self.assertIs(shows(5, still, still, [(0,)]), False)
        self.assertIs(shows(5, still, still, [()]), True)

    def test_the_empty_paper(self):
        still = (1, 0, 1, ((2,),))
        self.assertIs(shows(5, still, still, ()), True)
        self.assertIs(shows(5, still, (1, 1, 1, ((2, 3), (0, 4))), ()), True)
        self.assertIs(shows(5, still, (1, 1, 1, ((2, 3), (1, 0))), ()), False)
        self.assertIs(shows(5, (0, 1, 1, ((1,), (1,))), (0, 0, 1, ((),)), ()), True)
        self.assertIs(shows(5, (0, 0, 0, ()), (0, 0, 0, ()), ()), True)

    def test_more_rows_than_are_reached_may_show_it_too(self):
        idle = (1, 2, 1, ((0, 1, 0), (1, 0, 0), (0, 0, 1)))
        self.assertIs(shows(5, LATE, idle, ((1, 1, 0),)), True)
        self.assertIs(shows(5, LATE, idle, ((1, 1, 0), (0, 0, 1))), True)
        self.assertIs(shows(5, LATE, idle, ((1, 1, 0), (0, 1, 0))), False)

    def papers(self, source, p, one, other):
        """The told paper of two machines, and papers near to it."""
        length = one[1] + other[1]
        told = list(reduced(p, pairs_reached(p, one, other)))
        yield told
        yield [random_sum(source, p, told, length) for _ in told]
        yield list(all_rows(p, length))[:40]
        for n in range(len(told)):
            yield told[:n] + told[n + 1:]
            yield told[:n] + [random_sum(source, p, told, length)] + told[n + 1:]
            yield told[:n] + [tuple(source.randrange(p) for _ in range(length))] + told[n + 1:]
        more = row_unlike(source, p, told, length)
        if more is not None:
            yield told + [more]
            yield [more] + told
        if length:
            yield told + [tuple(int(k == source.randrange(length)) for k in range(length))]
        yield told + [(0,) * (length + 1)]
        yield told + [(0,) * length]

    def test_just_the_papers_of_which_the_words_hold(self):
        for p in (2, 3):
            source = random.Random(p)
            seen = {True: 0, False: 0}
            pairs = list(twins(60 + p, p, 60)) + list(strangers(70 + p, p, 40))
            for one, other in [pair for pair in pairs if p ** (pair[0][1] + pair[1][1]) < 1000]:
                for paper in self.papers(source, p, one, other):
                    asked = shown_same(p, one, other, paper)
                    self.assertIs(shows(p, one, other, paper), asked, (one, other, paper))
                    self.assertIs(shows(p, one, other, tuple(paper)), asked)
                    seen[asked] += 1
            self.assertGreater(min(seen.values()), 100)

    def test_no_paper_shows_machines_the_same_that_part(self):
        for p in (2, 3):
            for one, other in strangers(80 + p, p, 60):
                if same_ever(p, one, other)[0] == "parted" and p ** (one[1] + other[1]) < 100:
                    for paper in (reduced(p, pairs_reached(p, one, other)), (), all_rows(p, one[1] + other[1])):
                        self.assertIs(shows(p, one, other, paper), False)


class DrawingsTest(unittest.TestCase):
    def test_a_sum_waits_as_what_it_sums(self):
        one, other = machine(7, read(7, "then add late")), machine(7, read(7, "then beside late late add"))
        self.assertEqual(same_ever(7, one, other), ("same", ((1, 0, 1), (0, 1, 6))))
        self.assertIs(shows(7, one, other, [(1, 1, 0), (1, 0, 1)]), True)

    def test_a_copy_of_what_waits(self):
        one, other = machine(7, read(7, "then late copy")), machine(7, read(7, "then copy beside late late"))
        self.assertEqual(same_ever(7, one, other), ("same", ((1, 1, 1),)))
        wrong = machine(7, read(7, "then copy beside late then late times 2"))
        self.assertEqual(same_ever(7, one, wrong), ("parted", [(1,), (0,)]))


if __name__ == "__main__":
    unittest.main()
