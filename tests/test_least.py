"""Point [20]: the least machine of a machine."""

import random
import unittest

from bentwires.ever import same_ever, shows
from bentwires.least import least
from bentwires.machines import machine, run
from bentwires.words import read
from tests.ticking import (
    drawing_of, faults_of_least, fewest, first_parting, other_states, random_machine, with_idle_states)


def machines(seed, p, count, states):
    """Machines of many kinds: full ones, ones with few factors, ones that come from smaller ones."""
    source = random.Random(seed)
    for _ in range(count):
        nought = source.choice((0, 0.5, 0.8))
        some = random_machine(source, p, source.randrange(4), source.randrange(states + 1), source.randrange(3), nought)
        if source.randrange(2):
            some = with_idle_states(source, p, some, source.randrange(2), source.randrange(2))
        yield other_states(source, p, some)


class LeastTest(unittest.TestCase):
    def test_a_least_machine_stays(self):
        for words in (("late",), ("then", "late", "late"), ("beside", "late", "late"), ("add",), ("empty",), ("none",),
                      ("end",), ("beside", "late", "copy")):
            some = machine(5, words)
            self.assertEqual(least(5, some), some)

    def test_its_states_are_told_by_single_askings(self):
        # What is kept is 2 a, and 3 times that is answered: the state stands for what one asking of 1 leads to.
        self.assertEqual(least(5, (1, 1, 1, ((0, 3), (2, 0)))), (1, 1, 1, ((0, 1), (1, 0))))
        self.assertEqual(least(7, (1, 1, 1, ((0, 3), (1, 0)))), (1, 1, 1, ((0, 3), (1, 0))))
        self.assertEqual(least(7, (1, 1, 1, ((0, 1), (3, 0)))), (1, 1, 1, ((0, 3), (1, 0))))
        self.assertEqual(least(7, (1, 1, 1, ((4, 1), (3, 2)))), (1, 1, 1, ((4, 3), (1, 2))))

    def test_by_length_then_by_wire(self):
        # The second wire leads to the first state, the first wire to the second: the first wire comes first.
        crossed = (2, 2, 2, ((0, 0, 1, 0), (0, 0, 0, 1), (0, 1, 0, 0), (1, 0, 0, 0)))
        self.assertEqual(
            least(5, crossed), (2, 2, 2, ((0, 0, 0, 1), (0, 0, 1, 0), (1, 0, 0, 0), (0, 1, 0, 0))))
        # One wire leads to two states one after the other, the second wire to the third: by length the two wires
        # come first, then what follows the first one.
        longer = (2, 3, 2, ((0, 0, 0, 1, 0), (0, 0, 0, 0, 1), (1, 0, 0, 0, 0), (0, 0, 1, 0, 0), (0, 1, 0, 0, 0)))
        self.assertEqual(least(5, longer), (2, 3, 2, (
            (0, 0, 0, 0, 1), (0, 0, 0, 1, 0), (1, 0, 0, 0, 0), (0, 1, 0, 0, 0), (0, 0, 1, 0, 0))))

    def test_what_is_a_sum_of_those_ahead_is_not_taken(self):
        # The second wire leads to three times what the first one leads to.
        shared = (2, 2, 1, ((0, 0, 1, 0), (1, 3, 0, 0), (0, 0, 0, 0)))
        self.assertEqual(least(5, shared), (2, 1, 1, ((0, 0, 1), (1, 3, 0))))
        # The third tick's states are sums of those of the first two.
        loop = (1, 3, 1, ((0, 1, 0, 0), (1, 1, 1, 0), (0, 1, 0, 0), (0, 0, 0, 1)))
        self.assertEqual(least(5, loop), (1, 2, 1, ((0, 1, 1), (1, 0, 1), (0, 1, 1))))

    def test_a_wire_that_leads_nowhere_is_passed_over(self):
        some = (3, 2, 1, ((1, 0, 0, 1, 0), (0, 1, 0, 0, 0), (0, 0, 1, 0, 0)))
        self.assertEqual(least(5, some), (3, 1, 1, ((1, 0, 0, 1), (0, 1, 0, 0))))

    def test_states_that_are_not_told_apart_are_one(self):
        one = machine(7, read(7, "then copy beside late late"))
        self.assertEqual(least(7, one), (1, 1, 2, ((0, 1), (0, 1), (1, 0))))
        self.assertEqual(least(7, machine(7, read(7, "then beside late late add"))), (2, 1, 1, ((0, 0, 1), (1, 1, 0))))

    def test_states_that_are_told_apart_only_after_many_ticks(self):
        # Of n states one behind the other all n ticks of a response are asked for.
        for p in (2, 97):
            for count in (1, 2, 7, 24):
                some = machine(p, ("then", "late") * (count - 1) + ("late",))
                self.assertEqual(least(p, some), some)
                ended = machine(p, ("then", "late") * count + ("times", 0))
                self.assertEqual(least(p, ended), (1, 0, 1, ((0,),)))

    def test_no_state_number_left(self):
        # Never answered; never reached; both; no right wires; no left wires; no states.
        self.assertEqual(least(5, (1, 1, 1, ((2, 0), (1, 1)))), (1, 0, 1, ((2,),)))
        self.assertEqual(least(5, (1, 1, 1, ((2, 1), (0, 1)))), (1, 0, 1, ((2,),)))
        self.assertEqual(least(5, (1, 2, 1, ((2, 0, 1), (1, 1, 0), (0, 0, 1)))), (1, 0, 1, ((2,),)))
        self.assertEqual(least(5, (2, 1, 0, ((1, 1, 1),))), (2, 0, 0, ()))
        self.assertEqual(least(5, (0, 2, 2, ((1, 0), (0, 1), (1, 1), (2, 1)))), (0, 0, 2, ((), ())))
        self.assertEqual(least(5, (2, 0, 1, ((1, 4),))), (2, 0, 1, ((1, 4),)))
        self.assertEqual(least(5, (0, 3, 0, ((1, 2, 3),) * 3)), (0, 0, 0, ()))
        self.assertEqual(least(5, (0, 0, 0, ())), (0, 0, 0, ()))

    def test_the_words_hold_of_many_machines(self):
        for p, count in ((2, 200), (3, 200), (5, 100), (97, 100)):
            sizes = {}
            for some in machines(p, p, count, 4):
                told = least(p, some)
                self.assertEqual(faults_of_least(p, some, told), [], some)
                sizes[some[1] - told[1], told[1]] = True
            self.assertGreater(len(sizes), 12)

    def test_the_same_answers(self):
        for p in (2, 3, 97):
            source = random.Random(p)
            for some in machines(20 + p, p, 60, 5):
                told = least(p, some)
                asked = [tuple(source.randrange(p) for _ in range(some[0])) for _ in range(60)]
                self.assertEqual(run(p, told, asked), run(p, some, asked))
                self.assertEqual(same_ever(p, some, told)[0], "same")

    def test_the_least_machine_of_a_least_one_is_itself(self):
        for p in (2, 3, 97):
            for some in machines(30 + p, p, 100, 5):
                told = least(p, some)
                self.assertEqual(least(p, told), told)

    def test_none_with_the_same_answers_has_fewer_state_numbers(self):
        for p in (2, 3, 97):
            for some in machines(40 + p, p, 100, 4):
                self.assertEqual(least(p, some)[1], fewest(p, some))

    def test_one_least_machine_just_where_the_answers_are_the_same(self):
        for p in (2, 3, 97):
            source = random.Random(50 + p)
            for some in machines(60 + p, p, 80, 4):
                twin = other_states(source, p, with_idle_states(source, p, some, 1, 1))
                self.assertEqual(least(p, twin), least(p, some))
            every = list(machines(70 + p, p, 60, 2))
            same = parted = 0
            for one in every:
                for other in [other for other in every if (other[0], other[2]) == (one[0], one[2])]:
                    asked = first_parting(p, one, other)
                    self.assertEqual(least(p, one) == least(p, other), asked is None)
                    same, parted = same + (asked is None), parted + (asked is not None)
            self.assertGreater(min(same, parted), 20)

    def test_of_drawings(self):
        source = random.Random(7)
        for p in (2, 97):
            for sides in ((1, 3, 1), (2, 2, 2), (0, 2, 1), (1, 2, 0)):
                some = with_idle_states(source, p, random_machine(source, p, *sides), 1, 1)
                told = least(p, machine(p, drawing_of(p, some)))
                self.assertEqual(told, least(p, some))
                self.assertEqual(machine(p, drawing_of(p, told)), told)

    def test_great_machines(self):
        for p in (2, 97):
            source = random.Random(p)
            some = with_idle_states(source, p, random_machine(source, p, 8, 12, 8), 2, 2)
            told = least(p, some)
            self.assertEqual((told[:3], len(told[3]), {len(row) for row in told[3]}), ((8, 12, 8), 20, {20}))
            self.assertEqual(least(p, told), told)
            kind, paper = same_ever(p, some, told)
            self.assertEqual((kind, shows(p, some, told, paper)), ("same", True))

    def test_kinds(self):
        for some in machines(80, 5, 50, 4):
            told = least(5, some)
            self.assertEqual((type(told), type(told[3])), (tuple, tuple))
            self.assertTrue(all(type(row) is tuple for row in told[3]))
            self.assertTrue(all(type(number) is int for number in told[:3] + sum(told[3], ())))
            self.assertTrue(all(0 <= number < 5 for number in sum(told[3], ())))


if __name__ == "__main__":
    unittest.main()
