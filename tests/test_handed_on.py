"""Points [2] and [3] over settings, alike, drawn and moves: kinds, nothing changed, greatness, and told handed on."""

import copy
import importlib
import inspect
import random
import unittest

from bentwires import errors
from bentwires.alike import compared
from bentwires.drawn import drawn
from bentwires.moves import moved, moves
from bentwires.plain import plain
from bentwires.rows import barred, factors_of, reduced
from bentwires.settings import bar, inner, setting, stands
from bentwires.words import read, shown, wires
from tests.oracle import (
    PRIMES, great_drawing, let_by, product, random_drawings, random_sum, row_unlike, span, stands_by_words)

# The interface: the functions of each module, with the names of their arguments.
INTERFACE = {
    "rows": {"turned": "p number", "summed": "p rows factors length", "reduced": "p rows", "factors_of": "p rows row",
             "barred": "p rows length"},
    "words": {"read": "p text", "shown": "words", "wires": "words"},
    "plain": {"plain": "p words"},
    "settings": {"inner": "words", "stands": "p words row setting", "setting": "p words row", "bar": "p words row"},
    "alike": {"compared": "p one other"},
    "drawn": {"drawn": "p rows left right"},
    "moves": {"moved": "p words at rule", "moves": "p words"},
    "machines": {"ticks": "p words", "machine": "p words", "run": "p some asked"},
    "ever": {"same_ever": "p one other", "shows": "p one other paper"},
    "least": {"least": "p some"},
    "whole": {"told": "p one other", "answers": "p text asked"},
}


class InterfaceTest(unittest.TestCase):
    def test_names_and_arguments(self):
        for name, functions in INTERFACE.items():
            module = importlib.import_module(f"bentwires.{name}")
            for function, arguments in functions.items():
                asked = inspect.signature(getattr(module, function))
                self.assertEqual(list(asked.parameters), arguments.split(), function)
            for refusal, value in vars(module).items():
                if isinstance(value, type):
                    self.assertIs(value, getattr(errors, refusal))

    def test_by_the_arguments_names(self):
        self.assertIs(stands(p=5, words=("id",), row=(2, 2), setting=()), True)
        self.assertEqual(setting(p=5, words=("id",), row=(2, 2)), ())
        self.assertIsNone(bar(p=5, words=("id",), row=(2, 2)))
        self.assertEqual(inner(words=("then", "id", "id")), 1)
        self.assertEqual(compared(p=5, one=("id",), other=("times", 1)), ("same",))
        self.assertEqual(plain(5, drawn(p=5, rows=((1, 3),), left=1, right=1)), ((1, 3),))
        self.assertEqual(moved(p=5, words=("times", 1), at=0, rule="one"), ("id",))
        self.assertEqual(moves(p=5, words=("times", 1)), [(0, "one")])


class KindsTest(unittest.TestCase):
    def check_numbers(self, p, row, length):
        self.assertIs(type(row), tuple)
        self.assertEqual(len(row), length)
        self.assertTrue(all(type(number) is int and 0 <= number < p for number in row), row)

    def test_told_are_whole_numbers_below_each_prime(self):
        for p in PRIMES:
            source = random.Random(p)
            for words in random_drawings(2 * p, p, 12, 3, 3):
                form, length = plain(p, words), sum(wires(words))
                row, other = random_sum(source, p, form, length), row_unlike(source, p, form, length)
                self.check_numbers(p, setting(p, words, row), inner(words))
                if other is not None:
                    self.check_numbers(p, bar(p, words, other), length)
                for at, rule in moves(p, words):
                    told = moved(p, words, at, rule)
                    self.assertIs(type(told), tuple)
                    self.assertEqual(read(p, shown(told)), told)
                drawing = drawn(p, form, *wires(words))
                self.assertEqual(read(p, shown(drawing)), drawing)


class NothingChangedTest(unittest.TestCase):
    def test_a_list_of_rows_stays_as_it_was(self):
        for p in (2, 5, 97):
            form = list(reduced(p, [(1, 0, 1, 1, 0), (0, 1, 1, 0, 1), (1, 1, 0, 1, 0)]))
            before = copy.deepcopy(form)
            told = drawn(p, form, 2, 3)
            self.assertEqual(form, before)
            form.clear()
            self.assertEqual(plain(p, told), tuple(before))

    def test_asked_again_the_same_is_told(self):
        for p, others in ((5, 7), (2, 97)):
            for words in random_drawings(8, p, 25, 3, 3):
                noughts = (0,) * sum(wires(words))
                ones = (1,) * sum(wires(words))

                def ask():
                    return [inner(words), setting(p, words, noughts), setting(p, words, ones), bar(p, words, ones),
                            stands(p, words, noughts, (0,) * inner(words)), moves(p, words),
                            [moved(p, words, at, rule) for at, rule in moves(p, words)],
                            drawn(p, plain(p, words), *wires(words)), compared(p, words, words)]

                first = ask()
                before = copy.deepcopy(first)
                setting(others, ("then", "copy", "add"), (1, 2 % others))
                moves(others, ("back", "back", "id"))
                drawn(others, ((1, 1),), 1, 1)
                again = ask()
                again[5].append("other")
                self.assertEqual(first, before)
                self.assertEqual(ask(), before)


class HandedOnTest(unittest.TestCase):
    def test_settings_and_bars_of_great_drawings(self):
        for p in (2, 3, 89, 97):
            source = random.Random(p)
            for seed in range(8):
                self.check_rows(p, great_drawing(900 + seed, p, 80), source)

    def check_rows(self, p, words, source):
        """Each row of the plain form, and one that is not let by, through all that tells of rows."""
        form, length = plain(p, words), sum(wires(words))
        told = drawn(p, form, *wires(words))
        for row in form[:3] + (random_sum(source, p, form, length),):
            for drawing in (words, told):
                numbers = setting(p, drawing, row)
                self.assertIs(stands(p, drawing, row, numbers), True)
                self.assertTrue(stands_by_words(p, drawing, row, numbers))
                self.assertIsNone(bar(p, drawing, row))
        row = row_unlike(source, p, form, length)
        if row is None:
            return
        for drawing in (words, told):
            other = bar(p, drawing, row)
            self.assertIsNone(setting(p, drawing, row))
            self.assertNotEqual(product(p, other, row), 0)
            self.assertIsNotNone(factors_of(p, barred(p, form, length), other))

    def test_a_drawing_drawn_of_the_most_rows_and_wires(self):
        for p in (2, 97):
            source = random.Random(p)
            for count in (2, 8, 11):
                form = reduced(p, [tuple(source.randrange(p) for _ in range(16)) for _ in range(count)])
                words = drawn(p, form, 8, 8)
                self.assertEqual(wires(words), (8, 8))
                self.check_rows(p, words, source)
                self.assertEqual(drawn(p, plain(p, words), 8, 8), words)
                for at, rule in moves(p, words)[:3]:
                    told = moved(p, words, at, rule)
                    self.assertEqual(compared(p, words, told), ("same",))
                    self.assertEqual(plain(p, told), form)

    def test_what_parts_two_drawings_is_let_by_the_one_and_barred_by_the_other(self):
        parted = 0
        for p in (2, 3, 97):
            drawings = random_drawings(p, p, 60, 2, 3) + [great_drawing(seed, p, 80, 3) for seed in range(30)]
            for k, one in enumerate(drawings):
                for other in [other for other in drawings[k::5] if wires(other) == wires(one)]:
                    told = compared(p, one, other)
                    self.assertEqual(told == ("same",), plain(p, one) == plain(p, other))
                    if told == ("same",):
                        continue
                    parted += 1
                    lets, bars = (one, other) if told[2] == 0 else (other, one)
                    self.assertIs(stands(p, lets, told[1], setting(p, lets, told[1])), True)
                    self.assertIsNone(bar(p, lets, told[1]))
                    self.assertIsNone(setting(p, bars, told[1]))
                    self.assertNotEqual(product(p, bar(p, bars, told[1]), told[1]), 0)
        self.assertGreater(parted, 100)

    def test_a_drawing_drawn_from_a_plain_form_is_the_same(self):
        for p in PRIMES:
            for words in random_drawings(4 * p, p, 8, 3, 4) + [great_drawing(p, p, 80)]:
                told = drawn(p, plain(p, words), *wires(words))
                self.assertEqual(wires(told), wires(words))
                self.assertEqual(plain(p, told), plain(p, words))
                self.assertEqual(compared(p, words, told), ("same",))
                self.assertEqual(compared(p, told, words), ("same",))

    def test_drawn_of_what_is_barred(self):
        for p in (2, 5):
            for words in random_drawings(80 + p, p, 40, 2, 3):
                left, right = wires(words)
                told = drawn(p, barred(p, plain(p, words), left + right), left, right)
                good = let_by(p, words)
                for row in span(p, plain(p, told), left + right):
                    self.assertFalse(any(product(p, row, some) for some in good))

    def test_a_moved_drawing_stands_in_others(self):
        for p in (2, 97):
            for words in random_drawings(90 + p, p, 40, 2, 3):
                left, right = wires(words)
                ahead = drawn(p, barred(p, [(1,) * (left + 1)], left + 1), 1, left)
                behind = drawn(p, barred(p, [(1,) * (right + 2)], right + 2), right, 2)
                for at, rule in moves(p, words):
                    told = moved(p, words, at, rule)
                    for whole, other in (
                        (("then",) + ahead + words, ("then",) + ahead + told),
                        (("then",) + words + behind, ("then",) + told + behind),
                        (("beside",) + words + words, ("beside",) + told + words),
                        (("back", "beside", "copy") + words, ("back", "beside", "copy") + told),
                    ):
                        self.assertEqual(compared(p, whole, other), ("same",), (words, at, rule))


class DeepTest(unittest.TestCase):
    def test_drawings_that_are_all_depth(self):
        for p in (2, 97):
            for count in (79, 199):
                deep = ("back",) * count + ("copy",)
                self.assertEqual((inner(deep), setting(p, deep, (1, 1, 1)), len(moves(p, deep))), (0, (), count - 1))
                self.assertIsNone(setting(p, deep, (1, 1, 0)))
                self.assertIs(stands(p, deep, (1, 1, 1), ()), True)
                self.assertEqual(compared(p, deep, ("back", "copy")), ("same",))
                self.assertEqual(len(moved(p, deep, count - 2, "twice")), count - 1)

    def test_drawings_that_are_all_length(self):
        for p in (2, 97):
            for count in (39, 120):
                right = ("then", "times", 1) * count + ("id",)
                left = ("then",) * count + ("times", 1) * count + ("id",)
                for words in (right, left):
                    self.assertEqual(inner(words), count)
                    self.assertEqual(setting(p, words, (1, 1)), (1,) * count)
                    self.assertIs(stands(p, words, (1, 1), (1,) * count), True)
                    self.assertIs(stands(p, words, (1, 1), (1,) * (count - 1) + (0,)), False)
                    self.assertIs(stands(p, words, (1, 1), (0,) + (1,) * (count - 1)), False)
                    self.assertEqual(product(p, bar(p, words, (1, 0)), (1, 1)), 0)
                    self.assertEqual(len([rule for at, rule in moves(p, words) if rule == "one"]), count)
                self.assertEqual(compared(p, left, right), ("same",))

    def test_eight_wires_to_each_side_and_eighty_words(self):
        for p in (2, 97):
            swaps = ("beside",) * 3 + ("swap",) * 4
            words = ("then",) * 9 + swaps * 10
            self.assertEqual((len(words), wires(words), inner(words)), (79, (8, 8), 72))
            row = tuple(n % p for n in (1, 2, 3, 4, 5, 6, 7, 8))
            turned = tuple(row[n ^ 1] for n in range(8))
            self.assertEqual(setting(p, words, row + row), (turned + row) * 4 + turned)
            self.assertIs(stands(p, words, row + row, (turned + row) * 4 + turned), True)
            self.assertIs(stands(p, words, row + turned, (turned + row) * 4 + turned), False)
            self.assertIsNone(setting(p, words, row + turned))
            self.assertNotEqual(product(p, bar(p, words, row + turned), row + turned), 0)


if __name__ == "__main__":
    unittest.main()
