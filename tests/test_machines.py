"""Points [16], [17] and [18]: tick rows, the machine of a drawing, and how it runs."""

import random
import unittest

from bentwires.drawn import drawn
from bentwires.errors import NoRun
from bentwires.machines import machine, run, ticks
from bentwires.plain import plain
from bentwires.rows import reduced
from bentwires.words import read, shown, wires
from tests.oracle import all_rows, faults_of_reduced, random_drawings, span
from tests.ticking import (
    after_given, answered, drawing_of, follows, looped, random_machine, step, tick_rows, waiting_drawings)

# What is added up so far: the sum of what is asked and what is kept is answered, and kept from then on.
TOTAL = "then beside id cup then beside then add then copy beside id late id beside id back cup"
# The numbers asked, two ticks later.
TWICE = "then late late"


class TicksTest(unittest.TestCase):
    def test_a_waiting_box_has_what_it_keeps_to_its_right(self):
        # The left number, the one kept, the right one, the one kept from then on.
        self.assertEqual(ticks(5, ("late",)), ((1, 0, 0, 1), (0, 1, 1, 0)))

    def test_turned_about_it_has_what_it_keeps_to_its_left(self):
        self.assertEqual(ticks(5, ("back", "late")), ((1, 1, 0, 0), (0, 0, 1, 1)))
        self.assertEqual(ticks(5, ("back", "back", "late")), ticks(5, ("late",)))

    def test_one_behind_the_other(self):
        # Left, both kept, right, both kept from then on: the first one keeps what is left, the second what the first had.
        self.assertEqual(
            ticks(3, read(3, TWICE)), ((1, 0, 0, 0, 1, 0), (0, 1, 0, 0, 0, 1), (0, 0, 1, 1, 0, 0)))

    def test_one_beside_the_other(self):
        rows = ((1, 0, 0, 0, 0, 0, 1, 0), (0, 1, 0, 0, 0, 0, 0, 1), (0, 0, 1, 0, 1, 0, 0, 0), (0, 0, 0, 1, 0, 1, 0, 0))
        self.assertEqual(ticks(7, ("beside", "late", "late")), rows)

    def test_counted_as_they_stand_in_the_words_also_turned_about(self):
        # To the left stands what the one keeps that is the second in the words, as the whole is turned about.
        self.assertEqual(
            ticks(3, ("back", "then", "late", "late")), ((1, 0, 1, 0, 0, 0), (0, 1, 0, 0, 0, 1), (0, 0, 0, 1, 1, 0)))
        # The second one in the words lies to the left: what is asked is kept by it.
        told = ticks(5, read(5, "then beside late id then swap beside late id"))
        self.assertEqual(told, reduced(5, [
            (1, 0, 0, 0, 0, 0, 1, 0), (0, 1, 0, 0, 0, 0, 0, 1), (0, 0, 1, 0, 0, 1, 0, 0), (0, 0, 0, 1, 1, 0, 0, 0)]))

    def test_in_a_loop(self):
        # Asked a, kept s: answered and kept from then on is a + s.
        self.assertEqual(ticks(5, read(5, TOTAL)), ((1, 0, 1, 1), (0, 1, 1, 1)))
        # A box that waits for itself: it keeps what it keeps.
        self.assertEqual(ticks(5, read(5, "then cup then beside late id back cup")), ((1, 1),))
        self.assertEqual(ticks(5, read(5, "then cup then beside then late times 3 id back cup")), ((1, 3),))

    def test_without_late_it_is_the_plain_form(self):
        for p in (2, 5, 97):
            for words in random_drawings(p, p, 60, 3, 3):
                self.assertEqual(ticks(p, words), plain(p, words))

    def test_each_box_beside_and_behind_a_waiting_one(self):
        for p in (2, 3):
            for word in ("id", "copy", "end", "add", "none", "times 2", "times 0", "cup", "swap", "empty"):
                if word == "times 2" and p == 2:
                    continue
                for text in (f"beside late {word}", f"beside {word} late", f"back beside {word} back late",
                             f"beside late beside {word} late"):
                    self.check(p, read(p, text))
            for text in ("then copy beside late late", "then beside late late add", "then late end", "then none late",
                         "then late copy", "then cup beside late id", "then beside late id back cup",
                         "then swap beside late id", "then times 0 late", "then late times 0"):
                for whole in (text, "back " + text):
                    self.check(p, read(p, whole))

    def check(self, p, words):
        told = ticks(p, words)
        self.assertEqual(faults_of_reduced(told), [], words)
        self.assertEqual(span(p, told, sum(wires(words)) + 2 * words.count("late")), tick_rows(p, words), words)

    def test_all_tick_rows_of_many_drawings(self):
        waiting = 0
        for p, room in ((2, 4), (3, 3), (5, 2)):
            for words in waiting_drawings(p, p, 300, 2, 4, room):
                waiting += words.count("late") > 1
                self.check(p, words)
        self.assertGreater(waiting, 100)


class MachineTest(unittest.TestCase):
    def test_the_machine_of_a_waiting_box(self):
        # The right number is what is kept, and the left one is kept from then on.
        self.assertEqual(machine(7, ("late",)), (1, 1, 1, ((0, 1), (1, 0))))

    def test_the_rows_are_the_right_wires_then_what_is_kept_from_then_on(self):
        # Two numbers a, b are asked, s and t are kept: answered are s + b, 3 t, b; kept from then on are a and b.
        text = "then beside late then copy beside copy then late times 3 then beside add swap beside id beside id id"
        words = read(5, text)
        self.assertEqual(wires(words), (2, 3))
        self.assertEqual(
            machine(5, words), (2, 2, 3, ((0, 1, 1, 0), (0, 0, 0, 3), (0, 1, 0, 0), (1, 0, 0, 0), (0, 1, 0, 0))))

    def test_sums_with_factors(self):
        self.assertEqual(machine(5, read(5, TOTAL)), (1, 1, 1, ((1, 1), (1, 1))))
        self.assertEqual(machine(5, read(5, TWICE)), (1, 2, 1, ((0, 0, 1), (1, 0, 0), (0, 1, 0))))
        self.assertEqual(
            machine(5, read(5, "then late then times 2 late")), (1, 2, 1, ((0, 0, 1), (1, 0, 0), (0, 2, 0))))

    def test_without_waiting_boxes(self):
        self.assertEqual(machine(5, ("add",)), (2, 0, 1, ((1, 1),)))
        self.assertEqual(machine(5, ("times", 0)), (1, 0, 1, ((0,),)))
        self.assertEqual(machine(5, ("copy",)), (1, 0, 2, ((1,), (1,))))
        self.assertEqual(machine(5, ("swap",)), (2, 0, 2, ((0, 1), (1, 0))))
        self.assertEqual(machine(5, ("back", "times", 2)), (1, 0, 1, ((3,),)))

    def test_without_left_or_right_wires(self):
        self.assertEqual(machine(5, ("empty",)), (0, 0, 0, ()))
        self.assertEqual(machine(5, ("none",)), (0, 0, 1, ((),)))
        self.assertEqual(machine(5, ("end",)), (1, 0, 0, ()))
        self.assertEqual(machine(5, ("then", "none", "late")), (0, 1, 1, ((1,), (0,))))
        self.assertEqual(machine(5, ("then", "late", "end")), (1, 1, 0, ((1, 0),)))
        self.assertEqual(machine(5, ("then", "none", "then", "late", "end")), (0, 1, 0, ((0,),)))
        self.assertEqual(machine(5, read(5, "then cup then beside late id back cup")), (0, 1, 0, ((1,),)))

    def refused(self, p, text):
        with self.assertRaises(NoRun, msg=text):
            machine(p, read(p, text))

    def counts(self, p, text):
        """How many tick rows there are for a left row and a row kept: the fewest and the most."""
        found = [len(after) for after in after_given(p, read(p, text)).values()]
        return min(found), max(found)

    def test_no_run_where_for_some_there_is_no_tick_row(self):
        for text in ("back none", "back copy", "back cup", "then back none none", "then late back none",
                     "beside late back none", "then copy beside late back none", "then beside late late back copy",
                     "then late then back none none"):
            self.assertEqual(self.counts(3, text), (0, 1), text)
            self.refused(3, text)

    def test_no_run_where_for_each_there_is_more_than_one(self):
        for text in ("back end", "cup", "back add", "then late then end back end", "beside late back end",
                     "then cup beside late id", "beside late cup", "then times 0 back times 0", "then back end late"):
            self.assertEqual(self.counts(3, text), (3, 3), text)
            self.refused(3, text)

    def test_no_run_where_for_some_there_is_none_and_for_others_more_than_one(self):
        for text in ("back late", "back times 0", "then back none back end", "beside back none back end",
                     "back then late late", "then none back late", "beside late back late", "then back late late"):
            fewest, most = self.counts(3, text)
            self.assertTrue(fewest == 0 and most > 1, text)
            self.refused(3, text)
        # As many tick rows are here as left rows and rows kept, so that how many there are does not tell.
        self.assertEqual(len(ticks(3, read(3, "beside back none back end"))), 1)
        self.assertEqual(len(ticks(3, read(3, "back late"))), 2)

    def test_what_does_not_run_by_itself_can_run_within_another(self):
        self.assertEqual(machine(5, read(5, "then back end end")), (0, 0, 0, ()))
        self.assertEqual(machine(5, read(5, "then none back none")), (0, 0, 0, ()))
        self.assertEqual(machine(5, read(5, "then copy back copy")), (1, 0, 1, ((1,),)))
        text = "then copy then beside late late add"
        self.assertEqual(machine(5, read(5, text)), (1, 2, 1, ((0, 1, 1), (1, 0, 0), (1, 0, 0))))
        # Two waiting boxes that must tell the same: for two that keep different numbers there is no tick row.
        self.refused(5, text.replace("add", "back copy"))

    def test_a_waiting_box_turned_about_can_run_within(self):
        # Turned about twice, and bent back by a cup on either side.
        self.assertEqual(machine(5, ("back", "back", "late")), machine(5, ("late",)))
        bent = read(5, "then beside cup id then beside id beside back late id beside id back cup")
        self.assertEqual(wires(bent), (1, 1))
        self.assertEqual(machine(5, bent), machine(5, ("late",)))
        two = read(5, "then beside cup id then beside id beside back then late times 2 id beside id back cup")
        self.assertEqual(machine(5, two), (1, 1, 1, ((0, 2), (1, 0))))

    def test_loops_run_but_where_nothing_waits_in_them_and_they_have_no_one_answer(self):
        # a is asked; x = a + 2 x is answered, so x = -a, without anything that waits.
        text = "then beside id cup then beside then add then copy beside id times {} id beside id back cup"
        self.assertEqual(machine(5, read(5, text.format(2))), (1, 0, 1, ((4,),)))
        # x = a + x has no answer where a is not 0, and any where it is.
        self.refused(5, text.format(1))

    def test_it_runs_just_where_each_left_row_and_row_kept_has_one_tick_row(self):
        running = halting = 0
        for p, room in ((2, 4), (3, 3), (5, 2)):
            for words in waiting_drawings(10 + p, p, 400, 2, 4, room):
                after = follows(p, words)
                if after is None:
                    halting += words.count("late") > 0
                    with self.assertRaises(NoRun):
                        machine(p, words)
                    continue
                running += words.count("late") > 0
                told = machine(p, words)
                self.assertEqual(told[:3], (wires(words)[0], words.count("late"), wires(words)[1]))
                self.assertEqual(len(told[3]), told[1] + told[2])
                self.assertTrue(all(len(row) == told[0] + told[1] for row in told[3]))
                for given, found in after.items():
                    self.assertEqual(step(p, told, *given), found, words)
        self.assertGreater(min(running, halting), 150)

    def test_a_drawing_drawn_of_a_machine_has_it(self):
        source = random.Random(5)
        for p in (2, 3, 97):
            for left, states, right in ((0, 0, 0), (1, 1, 1), (2, 3, 1), (0, 3, 2), (3, 2, 0), (4, 4, 4), (0, 8, 0)):
                some = random_machine(source, p, left, states, right, 0.3)
                words = drawing_of(p, some)
                self.assertEqual(machine(p, words), some)
                self.assertEqual(machine(p, read(p, shown(words))), some)

    def test_kinds(self):
        for words in (("late",), ("then", "none", "late"), ("empty",), ("copy",), ("beside", "late", "times", 4)):
            told = machine(5, words)
            self.assertIs(type(told), tuple)
            self.assertIs(type(told[3]), tuple)
            for row in told[3]:
                self.assertIs(type(row), tuple)
            self.assertTrue(all(type(number) is int for number in told[:3] + sum(told[3], ())))


class RunTest(unittest.TestCase):
    def test_a_row_a_tick_from_states_all_0(self):
        total = machine(7, read(7, TOTAL))
        self.assertEqual(run(7, total, [(1,), (2,), (0,), (6,)]), [(1,), (3,), (3,), (2,)])
        twice = machine(7, read(7, TWICE))
        self.assertEqual(run(7, twice, [(1,), (2,), (3,), (4,)]), [(0,), (0,), (1,), (2,)])

    def test_no_ticks(self):
        for words in (("late",), ("empty",), ("none",), ("end",), ("add",)):
            self.assertEqual(run(5, machine(5, words), []), [])
            self.assertEqual(run(5, machine(5, words), ()), [])

    def test_one_tick(self):
        self.assertEqual(run(5, machine(5, ("late",)), [(3,)]), [(0,)])
        self.assertEqual(run(5, machine(5, ("add",)), [(3, 4)]), [(2,)])

    def test_sixty_ticks(self):
        asked = [(n % 97,) for n in range(60)]
        self.assertEqual(run(97, machine(97, ("late",)), asked), [(0,)] + asked[:59])
        totals = [(sum(range(n + 1)) % 97,) for n in range(60)]
        self.assertEqual(run(97, machine(97, read(97, TOTAL)), asked), totals)
        forty = machine(2, ("then", "late") * 39 + ("late",))
        self.assertEqual(run(2, forty, [(1,)] + [(0,)] * 59), [(0,)] * 40 + [(1,)] + [(0,)] * 19)

    def test_without_states(self):
        self.assertEqual(run(5, (2, 0, 1, ((2, 3),)), [(1, 1), (4, 0), (0, 4)]), [(0,), (3,), (2,)])
        self.assertEqual(run(5, (0, 0, 0, ()), [(), (), ()]), [(), (), ()])

    def test_without_left_wires(self):
        # From states all 0 nothing ever comes.
        self.assertEqual(run(5, (0, 1, 2, ((1,), (2,), (1,))), [(), (), ()]), [(0, 0)] * 3)
        self.assertEqual(run(5, (0, 0, 1, ((),)), [()]), [(0,)])

    def test_without_right_wires(self):
        self.assertEqual(run(5, (1, 1, 0, ((1, 1),)), [(1,), (2,)]), [(), ()])

    def test_as_the_drawing_itself_goes_from_tick_to_tick(self):
        source = random.Random(8)
        for p, room in ((2, 4), (3, 3)):
            for words in waiting_drawings(20 + p, p, 150, 2, 4, room):
                after = follows(p, words)
                if after is None:
                    continue
                asked = [source.choice(all_rows(p, wires(words)[0])) for _ in range(12)]
                told, states = [], (0,) * words.count("late")
                for row in asked:
                    right, states = after[row, states]
                    told.append(right)
                self.assertEqual(run(p, machine(p, words), asked), told, words)
                self.assertEqual(run(p, machine(p, words), tuple(asked)), told, words)

    def test_great_machines(self):
        source = random.Random(9)
        for p in (2, 3, 97):
            some = random_machine(source, p, 8, 16, 8)
            asked = [tuple(source.randrange(p) for _ in range(8)) for _ in range(60)]
            told = run(p, some, asked)
            self.assertEqual(told, answered(p, some, asked))
            self.assertIs(type(told), list)
            self.assertTrue(all(type(row) is tuple for row in told))

    def test_what_is_answered_is_a_sum_of_what_single_askings_answer(self):
        some = machine(7, read(7, TOTAL))
        once = run(7, some, [(1,), (0,), (0,), (0,)])
        late = run(7, some, [(0,), (0,), (1,), (0,)])
        both = run(7, some, [(3,), (0,), (5,), (0,)])
        self.assertEqual(both, [((3 * a + 5 * b) % 7,) for (a,), (b,) in zip(once, late)])


class LoopTest(unittest.TestCase):
    def test_a_loop_of_any_drawing_that_waits(self):
        source = random.Random(10)
        for p in (2, 5):
            for left, right in ((0, 0), (1, 0), (0, 1), (2, 1)):
                some = random_machine(source, p, left + 1, 0, right + 1)
                graph = [tuple(int(k == n) for k in range(left + 1)) + tuple(row[n] for row in some[3])
                         for n in range(left + 1)]
                sums = drawn(p, graph, left + 1, right + 1)
                waits = ("then",) + sums + ("beside",) * right + ("id",) * right + ("late",)
                self.assertEqual(machine(p, looped(waits, left, right)), (left, 1, right, some[3]))


if __name__ == "__main__":
    unittest.main()
