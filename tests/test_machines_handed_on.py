"""Points [2] and [3] over machines, ever, least and whole: nothing changed, greatness, and told handed on."""

import copy
import random
import unittest

from bentwires.alike import compared
from bentwires.drawn import drawn
from bentwires.errors import NoRun, WireError
from bentwires.ever import same_ever, shows
from bentwires.least import least
from bentwires.machines import machine, run, ticks
from bentwires.moves import moved, moves
from bentwires.plain import plain
from bentwires.rows import barred, factors_of, reduced
from bentwires.settings import inner
from bentwires.whole import answers, told
from bentwires.words import read, shown, wires
from tests.oracle import PRIMES, faults_of_reduced, great_drawing, random_drawings, tree_of, tree_sides
from tests.ticking import (
    answered, beside_all, drawing_of, first_parting, looped, other_states, random_machine, waiting_drawings,
    with_idle_states)


def running(seed, p, count):
    """Machines of drawings with waiting boxes that run."""
    found = []
    for words in waiting_drawings(seed, p, 8 * count, 2, 4, 4):
        try:
            found.append((words, machine(p, words)))
        except NoRun:
            pass
    return found[:count]


def great_layer(source, p, left, room):
    """A layer of boxes that run, with waiting ones among them, and as many left wires."""
    while True:
        parts, rest = [], left
        while rest:
            box = source.choice((("late",), ("late",), ("id",), ("times", source.randrange(p)), ("copy",), ("swap",),
                                 ("add",), ("end",), ("back", "back", "late")))
            taken = tree_sides(tree_of(box))[0]
            if taken <= rest:
                parts.append(box)
                rest -= taken
        right = sum(tree_sides(tree_of(box))[1] for box in parts)
        if 1 <= right <= room:
            return beside_all(parts)


def great_running(seed, p, length, side=8):
    """A drawing that runs, of nearly as many words and with many waiting boxes."""
    source = random.Random(seed)
    words = great_layer(source, p, source.randrange(1, side + 1), side)
    while True:
        layer = great_layer(source, p, tree_sides(tree_of(words))[1], side)
        longer = ("then",) + words + layer if source.randrange(2) else ("back", "back", "then") + words + layer
        if len(longer) > length:
            return ("back", "back") * ((length - len(words)) // 2) + words
        words = longer


class InterfaceTest(unittest.TestCase):
    def test_by_the_arguments_names(self):
        late = machine(p=5, words=("late",))
        self.assertEqual(ticks(p=5, words=("late",)), ((1, 0, 0, 1), (0, 1, 1, 0)))
        self.assertEqual(run(p=5, some=late, asked=[(1,), (2,)]), [(0,), (1,)])
        self.assertEqual(same_ever(p=5, one=late, other=late), ("same", ((1, 1),)))
        self.assertIs(shows(p=5, one=late, other=late, paper=[(1, 1)]), True)
        self.assertEqual(least(p=5, some=late), late)
        self.assertEqual(told(p=5, one="late", other="late"), ("same", ((1, 1),)))
        self.assertEqual(answers(p=5, text="late", asked=[(1,), (2,)]), [(0,), (1,)])


class PrimesTest(unittest.TestCase):
    def check_numbers(self, p, rows, length):
        for row in rows:
            self.assertIs(type(row), tuple)
            self.assertEqual(len(row), length)
            self.assertTrue(all(type(number) is int and 0 <= number < p for number in row), row)

    def test_all_primes_from_2_to_97(self):
        for p in PRIMES:
            top = p - 1
            source = random.Random(p)
            words = ("then", "times", top, "then", "late", "times", top)
            self.assertEqual(machine(p, words), (1, 1, 1, ((0, top), (top, 0))))
            self.assertEqual(run(p, machine(p, words), [(top,), (1,), (0,)]), [(0,), (top,), (1,)])
            self.assertEqual(least(p, machine(p, words)), machine(p, ("late",)))
            self.assertEqual(told(p, shown(words), "late"), ("same", ((1, top),)))
            for sides in ((2, 3, 2), (1, 2, 1)):
                one = random_machine(source, p, *sides)
                other = with_idle_states(source, p, one, 1, 1)
                kind, paper = same_ever(p, one, other)
                self.assertEqual(kind, "same")
                self.assertEqual(faults_of_reduced(paper), [])
                self.check_numbers(p, paper, one[1] + other[1])
                self.check_numbers(p, least(p, other)[3], one[0] + least(p, other)[1])
                asked = [(top,) * one[0]] * 5
                self.check_numbers(p, run(p, other, asked), one[2])
                self.check_numbers(p, ticks(p, drawing_of(p, one)), sum(one[:3]) + one[1])
                self.check_numbers(p, machine(p, drawing_of(p, one))[3], one[0] + one[1])

    def test_told_lists_are_whole_numbers(self):
        for p in (2, 97):
            source = random.Random(p)
            for _ in range(30):
                one, other = random_machine(source, p, 2, 2, 1, 0.6), random_machine(source, p, 2, 1, 1, 0.6)
                found = same_ever(p, one, other)
                if found[0] == "parted":
                    self.check_numbers(p, found[1], 2)
                    self.assertTrue(all(type(number) is int for row in found[1] for number in row))


class NothingChangedTest(unittest.TestCase):
    def test_lists_that_are_handed_in_stay_as_they_were(self):
        some = machine(5, ("then", "late", "late"))
        asked = [(1,), (2,), (3,)]
        told_rows = run(5, some, asked)
        self.assertEqual(asked, [(1,), (2,), (3,)])
        found = answers(5, "then late late", asked)
        self.assertEqual(asked, [(1,), (2,), (3,)])
        asked.clear()
        self.assertEqual((told_rows, found), ([(0,), (0,), (1,)], [(0,), (0,), (1,)]))
        paper = [(0, 3, 0, 3), (1, 1, 1, 1), (0, 0, 0, 0)]
        before = copy.deepcopy(paper)
        self.assertIs(shows(5, some, some, paper), True)
        self.assertEqual(paper, before)

    def test_what_is_told_is_the_askers_own(self):
        one, other = machine(5, ("late",)), machine(5, ("then", "late", "late"))
        first = same_ever(5, one, other)
        first[1].append((4,))
        first[1][0] = (3,)
        self.assertEqual(same_ever(5, one, other), ("parted", [(1,), (0,)]))
        self.assertEqual(told(5, "late", "then late late"), ("parted", [(1,), (0,)]))
        rows = run(5, one, [(1,), (2,)])
        rows.clear()
        self.assertEqual(run(5, one, [(1,), (2,)]), [(0,), (1,)])
        asked = [(1,), (2,)]
        self.assertIsNot(run(5, machine(5, ("id",)), asked), asked)

    def test_asked_again_the_same_is_told(self):
        for p, others in ((5, 7), (2, 97)):
            for words, some in running(p, p, 12):
                asked = [(1,) * some[0]] * 4
                twin = with_idle_states(random.Random(p), p, some, 1, 1)

                def ask():
                    return [ticks(p, words), machine(p, words), run(p, some, asked), same_ever(p, some, twin),
                            shows(p, some, twin, same_ever(p, some, twin)[1]), least(p, twin),
                            told(p, shown(words), shown(words)), answers(p, shown(words), asked)]

                first = ask()
                before = copy.deepcopy(first)
                least(others, machine(others, ("then", "late", "late")))
                told(others, "late", "then late late")
                answers(others, "late", [(1,)])
                again = ask()
                again[2].append("other")
                self.assertEqual(first, before)
                self.assertEqual(ask(), before)


class GreatTest(unittest.TestCase):
    def test_eighty_words_that_all_wait(self):
        for p in (2, 97):
            right = ("then", "late") * 39 + ("late",)
            left = ("then",) * 39 + ("late",) * 40
            self.assertEqual((len(right), len(left), inner(right), inner(left)), (79, 79, 39, 39))
            some = machine(p, right)
            self.assertEqual(some[:3], (1, 40, 1))
            self.assertEqual(machine(p, left), some)
            self.assertEqual(len(ticks(p, ("back",) + left)), 41)
            asked = [(n % p,) for n in range(1, 61)]
            self.assertEqual(run(p, some, asked), [(0,)] * 40 + asked[:20])
            paper = tuple(tuple(int(k % 40 == n) for k in range(80)) for n in range(40))
            self.assertEqual(same_ever(p, some, some), ("same", paper))
            self.assertIs(shows(p, some, some, paper), True)
            self.assertIs(shows(p, some, some, paper[:-1]), False)
            self.assertIs(shows(p, some, some, paper[1:]), False)
            self.assertEqual(least(p, some), some)
            self.assertEqual(told(p, shown(left), shown(right)), ("same", paper))
            shorter = "then late " * 38 + "late"
            self.assertEqual(told(p, shown(left), shorter), ("parted", [(1,)] + [(0,)] * 39))

    def test_eight_waiting_wires_to_each_side(self):
        for p in (2, 97):
            layer = ("beside",) * 7 + ("late",) * 8
            words = ("then",) * 4 + layer * 5
            self.assertEqual((len(words), wires(words)), (79, (8, 8)))
            some = machine(p, words)
            self.assertEqual(some[:3], (8, 40, 8))
            asked = [tuple((n * k + k) % p for k in range(8)) for n in range(60)]
            self.assertEqual(run(p, some, asked), [(0,) * 8] * 5 + asked[:55])
            self.assertEqual(least(p, some), some)
            kind, paper = same_ever(p, some, some)
            self.assertEqual((kind, len(paper), shows(p, some, some, paper)), ("same", 40, True))

    def test_eighty_words_and_many_wires_that_run(self):
        for p in (2, 3, 97):
            source = random.Random(p)
            waiting = 0
            for seed in range(15):
                words = great_running(seed, p, 80)
                self.assertLessEqual(len(words), 80)
                waiting = max(waiting, words.count("late"))
                some = machine(p, words)
                asked = [tuple(source.randrange(p) for _ in range(some[0])) for _ in range(60)]
                self.assertEqual(run(p, some, asked), answered(p, some, asked))
                small = least(p, some)
                self.assertEqual(answers(p, shown(words), asked), run(p, small, asked))
                self.assertEqual(least(p, small), small)
                kind, paper = same_ever(p, some, small)
                self.assertEqual((kind, shows(p, some, small, paper)), ("same", True))
                self.assertEqual(faults_of_reduced(paper), [])
            self.assertGreater(waiting, 12)

    def test_drawings_that_are_all_depth(self):
        for p in (2, 97):
            for count in (78, 198):
                deep = ("back",) * count + ("late",)
                self.assertEqual(machine(p, deep), machine(p, ("late",)))
                self.assertEqual(ticks(p, ("back",) + deep), ((1, 1, 0, 0), (0, 0, 1, 1)))

    def test_great_drawings_without_late_have_their_plain_form_in_a_tick(self):
        for p in (2, 97):
            for seed in range(10):
                words = great_drawing(seed, p, 80)
                self.assertEqual(ticks(p, words), plain(p, words))

    def test_texts_of_1000_signs(self):
        long = "then late " * 99 + "times 1"
        self.assertEqual(len(long), 997)
        self.assertEqual(answers(97, long, [(5,)] + [(0,)] * 99), [(0,)] * 99 + [(5,)])
        self.assertEqual(told(97, long, long)[0], "same")
        self.assertEqual(told(2, long, "then " + long[10:] + " late")[0], "same")
        self.assertEqual(told(97, long, long[:-1] + "2"), ("parted", [(1,)] + [(0,)] * 99))


class HandedOnTest(unittest.TestCase):
    def test_drawings_that_are_drawn(self):
        # What is drawn of 8 wires to each side has far more than 80 words.
        for p in (2, 97):
            source = random.Random(p)
            factors = [tuple(source.randrange(p) for _ in range(8)) for _ in range(8)]
            graph = reduced(p, [tuple(int(k == n) for k in range(8)) + factors[n] for n in range(8)])
            words = drawn(p, graph, 8, 8)
            self.assertEqual(ticks(p, words), graph)
            rows = tuple(tuple(factors[n][k] for n in range(8)) for k in range(8))
            self.assertEqual(machine(p, words), (8, 0, 8, rows))
            self.assertEqual(told(p, shown(words), shown(words)), ("same",))
            wait = beside_all([("late",)] * 8)
            ahead, behind = ("then",) + wait + words, ("then",) + words + wait
            kind, paper = told(p, shown(ahead), shown(behind))
            self.assertEqual((kind, len(paper)), ("same", 8))
            self.assertIs(shows(p, machine(p, ahead), machine(p, behind), paper), True)
            asked = [tuple(source.randrange(p) for _ in range(8)) for _ in range(60)]
            self.assertEqual(answers(p, shown(ahead), asked), answers(p, shown(behind), asked))
            with self.assertRaises(NoRun):
                machine(p, drawn(p, graph[:7], 8, 8))

    def test_machines_drawn_and_read_again(self):
        for p in (2, 97):
            source = random.Random(p)
            for sides in ((4, 4, 4), (0, 6, 2), (2, 6, 0), (8, 0, 8), (2, 5, 3)):
                some = random_machine(source, p, *sides, nought=0.3)
                words = drawing_of(p, some)
                self.assertEqual(machine(p, words), some)
                small = least(p, some)
                again = drawing_of(p, small)
                self.assertEqual(machine(p, again), small)
                found = told(p, shown(words), shown(again))
                # Without waiting boxes in either one they are compared as drawings.
                self.assertEqual(found, same_ever(p, some, small) if some[1] else ("same",))

    def test_tick_rows_drawn_are_ticks_without_waiting(self):
        for p in (2, 5):
            for words in waiting_drawings(40 + p, p, 60, 2, 3, 3):
                left, right = wires(words)
                count = words.count("late")
                rows = ticks(p, words)
                one = drawn(p, rows, left + count, right + count)
                self.assertEqual(plain(p, one), rows)
                try:
                    some = machine(p, words)
                except NoRun:
                    with self.assertRaises(NoRun):
                        machine(p, one)
                    continue
                self.assertEqual(machine(p, one), (left + count, 0, right + count, some[3]))
                # The ticks' drawing with its waiting boxes bent back is the first drawing once more.
                whole = ("then",) + one + beside_all([("id",)] * right + [("late",)] * count)
                for rest in range(count - 1, -1, -1):
                    whole = looped(whole, left + rest, right + rest)
                self.assertEqual(ticks(p, whole), rows)

    def test_the_paper_and_the_least_machine_go_on_through_the_rows(self):
        for p in (3, 97):
            source = random.Random(p)
            for _ in range(10):
                one = random_machine(source, p, 2, 3, 1, 0.4)
                other = other_states(source, p, with_idle_states(source, p, one, 1, 0))
                kind, paper = same_ever(p, one, other)
                self.assertEqual(kind, "same")
                self.assertEqual(reduced(p, paper), paper)
                self.assertEqual(reduced(p, list(paper)), paper)
                bars = barred(p, paper, one[1] + other[1])
                self.assertEqual(barred(p, bars, one[1] + other[1]), paper)
                for row in paper:
                    self.assertIsNotNone(factors_of(p, paper, row))
                self.assertIs(shows(p, one, other, list(paper)), True)
                self.assertIs(shows(p, least(p, one), least(p, other), same_ever(p, least(p, one), least(p, other))[1]),
                              True)

    def test_what_parts_two_machines_is_run(self):
        for p in (2, 97):
            source = random.Random(p)
            for _ in range(40):
                one, other = random_machine(source, p, 2, 2, 1, 0.7), random_machine(source, p, 2, 2, 1, 0.7)
                kind, found = same_ever(p, one, other)
                if kind == "parted":
                    self.assertNotEqual(run(p, one, found)[-1], run(p, other, found)[-1])
                    self.assertNotEqual(run(p, least(p, one), found)[-1], run(p, least(p, other), found)[-1])


class WholeTest(unittest.TestCase):
    """The last sentence of [3]."""

    def test_the_same_for_ever_just_where_the_least_machines_are_one(self):
        seen = {"same": 0, "parted": 0}
        for p in (2, 3, 97):
            source = random.Random(p)
            every = [some for words, some in running(50 + p, p, 40)]
            every += [random_machine(source, p, 1, 2, 1, 0.6) for _ in range(10)]
            every += [other_states(source, p, with_idle_states(source, p, some, 1, 1)) for some in every[::2]]
            for k, one in enumerate(every):
                for other in [other for other in every[k::3] if (other[0], other[2]) == (one[0], one[2])]:
                    found = same_ever(p, one, other)
                    seen[found[0]] += 1
                    self.assertEqual(found[0] == "same", least(p, one) == least(p, other))
                    if found[0] == "same":
                        self.assertIs(shows(p, one, other, found[1]), True)
                    else:
                        self.assertEqual(found[1], first_parting(p, one, other))
                        self.assertIs(shows(p, one, other, same_ever(p, one, one)[1]), False)
        self.assertGreater(min(seen.values()), 100)

    def test_one_row_of_answers_for_each_row_of_askings(self):
        for p in (2, 5):
            source = random.Random(p)
            for words, some in running(60 + p, p, 30):
                for count in (0, 1, 7, 60):
                    asked = [tuple(source.randrange(p) for _ in range(some[0])) for _ in range(count)]
                    rows = answers(p, shown(words), asked)
                    self.assertEqual((len(rows), {len(row) for row in rows} - {some[2]}), (count, set()))

    def test_no_machine_with_the_same_answers_has_fewer_state_numbers(self):
        # Tried out: no machine of one state answers as this one of two does.
        for some in ((1, 2, 1, ((0, 0, 1), (1, 0, 0), (0, 1, 0))), (1, 2, 1, ((1, 1, 0), (1, 1, 1), (0, 1, 0)))):
            self.assertEqual(least(2, some)[1], 2)
            for code in range(16):
                bits = tuple(code >> k & 1 for k in range(4))
                self.assertEqual(same_ever(2, some, (1, 1, 1, (bits[:2], bits[2:])))[0], "parted")

    def test_moves_keep_what_stands_in_a_tick(self):
        moved_ones = 0
        for p in (2, 97):
            for words in random_drawings(70 + p, p, 60, 2, 3):
                if wires(words)[1] != 1:
                    continue
                for at, rule in moves(p, words):
                    moved_ones += 1
                    other = moved(p, words, at, rule)
                    self.assertEqual(ticks(p, ("then",) + words + ("late",)), ticks(p, ("then",) + other + ("late",)))
        self.assertGreater(moved_ones, 20)

    def test_told_of_drawings_and_of_what_is_drawn_of_them(self):
        for p in (2, 97):
            for words in random_drawings(80 + p, p, 30, 2, 3):
                again = drawn(p, plain(p, words), *wires(words))
                self.assertEqual(told(p, shown(words), shown(again)), ("same",))
                self.assertEqual(compared(p, read(p, shown(words)), again), ("same",))
                try:
                    self.assertEqual(machine(p, words), machine(p, again))
                except WireError:
                    with self.assertRaises(NoRun):
                        machine(p, again)


if __name__ == "__main__":
    unittest.main()
