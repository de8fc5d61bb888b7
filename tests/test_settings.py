"""Settings and bars: points [10] and [11]."""

import random
import unittest

from bentwires.errors import Late
from bentwires.plain import plain
from bentwires.settings import bar, inner, setting, stands
from bentwires.words import read, wires
from tests.oracle import (
    PRIMES, all_rows, great_drawing, let_by, product, random_drawings, random_sum, row_unlike, stands_by_words,
    tree_inner, tree_of)

# How many inner wires a drawing has.
INNER = [
    ("id", 0), ("swap", 0), ("copy", 0), ("end", 0), ("add", 0), ("none", 0), ("times 3", 0), ("cup", 0),
    ("empty", 0), ("late", 0), ("back copy", 0), ("beside copy add", 0), ("back beside late id", 0),
    ("then id id", 1), ("then copy add", 2), ("then add copy", 1), ("then end none", 0), ("then empty empty", 0),
    ("then cup back cup", 2), ("then late late", 1), ("then copy beside late id", 2), ("back then copy add", 2),
    ("back then add copy", 1), ("then back add add", 2), ("then back copy back add", 1),
    ("beside then copy add then id id", 3), ("beside id then copy add", 2), ("beside then copy add late", 2),
    ("then then id copy add", 3), ("then id then copy add", 3), ("then then copy swap then swap add", 6),
    ("then beside then late late id add", 3), ("back beside then id late back then copy add", 3),
    ("then beside cup cup beside id beside back cup id", 4), ("then then then id id id id", 3),
]

# Drawings of 7 with a row, and the one setting with which it stands: so its numbers tell the order of the wires.
ONE_SETTING = [
    ("then times 2 times 3", (1, 6), (2,)),
    ("then times 2 then times 3 times 4", (1, 3), (2, 6)),
    ("then then times 2 times 3 times 4", (1, 3), (2, 6)),
    ("then then times 2 times 3 then times 4 times 5", (1, 1), (2, 6, 3)),
    ("then copy add", (3, 6), (3, 3)),
    ("then then copy beside times 2 times 3 add", (1, 5), (1, 1, 2, 3)),
    ("then copy then beside times 2 times 3 add", (1, 5), (1, 1, 2, 3)),
    ("then copy then beside then times 2 times 3 times 4 add", (1, 3), (1, 1, 2, 6, 4)),
    ("then copy then beside times 4 then times 2 times 3 add", (1, 3), (1, 1, 2, 4, 6)),
    ("beside then times 2 times 3 then times 4 times 5", (1, 1, 6, 6), (2, 4)),
    ("beside then times 4 times 5 then times 2 times 3", (1, 1, 6, 6), (4, 2)),
    ("beside id then times 2 times 3", (5, 1, 5, 6), (2,)),
    ("back then times 2 times 3", (6, 1), (2,)),
    ("back then then times 2 times 3 times 4", (3, 1), (2, 6)),
    ("back beside then times 2 times 3 then times 4 times 5", (6, 6, 1, 1), (2, 4)),
    ("then times 2 back then times 3 times 5", (1, 2), (2, 6)),
    ("then back then times 3 times 5 times 2", (1, 2), (3, 1)),
    ("then then copy swap beside times 2 times 3", (1, 2, 3), (1, 1, 1, 1)),
    ("then beside times 2 times 3 swap", (1, 1, 3, 2), (2, 3)),
    ("then then beside times 2 times 3 swap add", (1, 1, 5), (2, 3, 3, 2)),
    ("then cup beside times 2 times 3", (2, 3), (1, 1)),
    ("then beside id cup beside back cup id", (5, 5), (5, 5, 5)),
    ("then end none", (4, 0), ()),
    ("then beside none id add", (3, 3), (0, 3)),
]

LATE = ["late", "back late", "beside id late", "beside late id", "then late late", "then copy beside late id",
        "beside times 2 back then id late", "then then end empty then none late"]

# Texts of drawings without inner wires, without wires, and with no row let by but noughts.
EDGES = [
    "id", "swap", "copy", "end", "add", "none", "times 0", "times 1", "cup", "empty", "back add", "back none",
    "back end", "back times 0", "beside add none", "beside none back none", "beside empty empty", "beside end cup",
    "then empty empty", "then none end", "then cup back cup", "then back end end", "then back add add",
    "then none back none", "beside none none", "beside back none none", "then copy beside back none back none",
    "then copy then add back none", "then back times 0 times 0", "then times 0 back times 0", "then end none",
    "then beside id cup then beside add id back cup", "then back end copy", "then none copy",
]


def small_drawings():
    """Small drawings with all inner wires few enough to try every setting."""
    found = []
    for p, side, most in ((2, 2, 7), (3, 1, 4), (5, 1, 3)):
        for words in random_drawings(70 + p, p, 400, side, 3):
            if tree_inner(tree_of(words)) <= most and len(words) > 1:
                found.append((p, words))
    return found


class InnerTest(unittest.TestCase):
    def test_by_hand(self):
        for text, count in INNER:
            told = inner(read(7, text))
            self.assertEqual(told, count, text)
            self.assertIs(type(told), int)

    def test_many(self):
        for p, words in small_drawings():
            self.assertEqual(inner(words), tree_inner(tree_of(words)), words)
        for seed in range(20):
            words = great_drawing(seed, 5, 80)
            late = tuple("late" if word == "id" else word for word in words)
            self.assertEqual(inner(words), tree_inner(tree_of(words)))
            self.assertEqual(inner(late), inner(words))


class StandsTest(unittest.TestCase):
    def test_each_box_by_itself(self):
        for p in (2, 3, 5):
            for text in ("id", "swap", "copy", "end", "add", "none", "times 0", "times 1", f"times {p - 1}", "cup",
                         "empty", "back copy", "back add", "back none", f"back times {p - 1}", "back times 0"):
                words = read(p, text)
                good = let_by(p, words)
                for row in all_rows(p, sum(wires(words))):
                    self.assertIs(stands(p, words, row, ()), row in good, (p, text, row))

    def test_the_order_of_the_inner_wires(self):
        for text, row, only in ONE_SETTING:
            words = read(7, text)
            self.assertIs(stands(7, words, row, only), True, text)
            for place in range(len(only)):
                for more in range(1, 7):
                    other = only[:place] + ((only[place] + more) % 7,) + only[place + 1:]
                    self.assertIs(stands(7, words, row, other), False, (text, other))
            if only != only[::-1]:
                self.assertIs(stands(7, words, row, only[::-1]), False, text)

    def test_another_row_does_not_stand_with_the_setting(self):
        for text, row, only in ONE_SETTING:
            words = read(7, text)
            good = let_by(7, words)
            for place in range(len(row)):
                other = row[:place] + ((row[place] + 1) % 7,) + row[place + 1:]
                if other not in good:
                    self.assertIs(stands(7, words, other, only), False, (text, other))

    def test_any_one_box_that_is_not_content(self):
        # Each of these lets (1, 1) by with (1, 1) between, but for one box, the first, the middle or the last.
        for text, content in (("then id then id id", True), ("then times 2 then id id", False),
                              ("then id then times 2 id", False), ("then id then id times 2", False)):
            self.assertIs(stands(5, read(5, text), (1, 1), (1, 1)), content)

    def test_each_row_with_each_setting(self):
        tried = 0
        for p, words in small_drawings():
            length = sum(wires(words))
            settings = all_rows(p, inner(words))
            if len(settings) * p ** length > 500:
                continue
            good = let_by(p, words)
            for row in all_rows(p, length):
                some = [numbers for numbers in settings if stands(p, words, row, numbers)]
                asked = [numbers for numbers in settings if stands_by_words(p, words, row, numbers)]
                self.assertEqual(some, asked, (p, words, row))
                self.assertEqual(some != [], row in good, (p, words, row))
            tried += 1
        self.assertGreater(tried, 200)

    def test_a_setting_of_another_length_stands_with_no_row(self):
        for text in [text for text, row, only in ONE_SETTING] + EDGES:
            words = read(7, text)
            right = inner(words)
            noughts = (0,) * sum(wires(words))
            self.assertIs(stands(7, words, noughts, (0,) * right), True, text)
            for length in range(right + 4):
                if length != right:
                    self.assertIs(stands(7, words, noughts, (0,) * length), False, (text, length))
        for text, row, only in ONE_SETTING:
            for other in (only + (0,), (0,) + only, only[:-1], only[1:], only + only):
                if len(other) != len(only):
                    self.assertIs(stands(7, read(7, text), row, other), False, (text, other))

    def test_late(self):
        for text in LATE:
            words = read(5, text)
            row = (0,) * sum(wires(words))
            for numbers in ((0,) * inner(words), (0,) * (inner(words) + 1)):
                with self.assertRaises(Late, msg=text):
                    stands(5, words, row, numbers)


class EachRow:
    """Rows that are let by and rows that are not, for a test that has check(p, words, row, let)."""

    def test_edges(self):
        for p in (2, 3):
            for text in EDGES:
                self.check_all(p, read(p, text))

    def test_each_row_of_each_small_drawing(self):
        for p, words in small_drawings():
            self.check_all(p, words)

    def check_all(self, p, words):
        good = let_by(p, words)
        for row in all_rows(p, sum(wires(words))):
            self.check(p, words, row, row in good)

    def test_rows_of_great_drawings(self):
        others = 0
        for p in (2, 3, 97):
            source = random.Random(p)
            for seed in range(25):
                words = great_drawing(100 * p + seed, p, 80)
                self.assertEqual(len(words), 80)
                rows = plain(p, words)
                length = sum(wires(words))
                for row in rows + (random_sum(source, p, rows, length), (0,) * length):
                    self.check(p, words, row, True)
                other = row_unlike(source, p, rows, length)
                if other is not None:
                    self.check(p, words, other, False)
                    others += 1
        self.assertGreater(others, 30)


class SettingTest(EachRow, unittest.TestCase):
    def check(self, p, words, row, let):
        told = setting(p, words, row)
        if not let:
            self.assertIsNone(told, (p, words, row))
            return
        self.assertIs(type(told), tuple, (p, words, row))
        self.assertEqual(len(told), inner(words))
        self.assertTrue(all(type(number) is int and 0 <= number < p for number in told))
        self.assertTrue(stands_by_words(p, words, row, told), (p, words, row, told))
        self.assertIs(stands(p, words, row, told), True, (p, words, row, told))

    def test_where_there_is_but_one(self):
        for text, row, only in ONE_SETTING:
            self.assertEqual(setting(7, read(7, text), row), only, text)

    def test_without_inner_wires_and_without_wires(self):
        self.assertEqual(setting(5, ("times", 2), (1, 2)), ())
        self.assertIsNone(setting(5, ("times", 2), (1, 3)))
        self.assertEqual(setting(5, ("empty",), ()), ())
        self.assertEqual(setting(5, ("then", "none", "end"), ()), (0,))
        told = setting(5, ("then", "cup", "back", "cup"), ())
        self.assertEqual((len(told), told[0]), (2, told[1]))

    def test_late(self):
        for text in LATE:
            words = read(5, text)
            with self.assertRaises(Late, msg=text):
                setting(5, words, (0,) * sum(wires(words)))


class BarTest(EachRow, unittest.TestCase):
    def check(self, p, words, row, let):
        told = bar(p, words, row)
        if let:
            self.assertIsNone(told, (p, words, row))
            return
        self.assertIs(type(told), tuple, (p, words, row))
        self.assertEqual(len(told), len(row))
        self.assertTrue(all(type(number) is int and 0 <= number < p for number in told))
        self.assertNotEqual(product(p, told, row), 0, (p, words, row, told))
        for some in plain(p, words):
            self.assertEqual(product(p, told, some), 0, (p, words, row, told))

    def test_by_hand(self):
        told = bar(5, ("times", 2), (1, 3))
        self.assertEqual((2 * told[1] + told[0]) % 5, 0)
        self.assertNotEqual((3 * told[1] + told[0]) % 5, 0)
        self.assertIsNone(bar(5, ("times", 2), (1, 2)))
        self.assertIsNone(bar(5, ("times", 2), (0, 0)))
        self.assertIsNone(bar(5, ("end",), (3,)))
        self.assertIsNone(bar(5, ("empty",), ()))
        self.assertIsNone(bar(5, ("then", "none", "end"), ()))
        told = bar(5, ("none",), (3,))
        self.assertTrue(len(told) == 1 and 0 < told[0] < 5)

    def test_a_bar_bars_all_rows_let_by(self):
        for p, words in small_drawings():
            good = let_by(p, words)
            told = [bar(p, words, row) for row in all_rows(p, sum(wires(words)))]
            for other in {other for other in told if other is not None}:
                self.assertFalse(any(product(p, other, row) for row in good))

    def test_late(self):
        for text in LATE:
            words = read(5, text)
            with self.assertRaises(Late, msg=text):
                bar(5, words, (0,) * sum(wires(words)))


class OneOfBothTest(unittest.TestCase):
    def test_a_row_has_a_setting_or_a_bar_at_each_prime(self):
        for p in PRIMES:
            source = random.Random(p)
            for words in random_drawings(p, p, 20, 3, 3):
                rows = plain(p, words)
                length = sum(wires(words))
                for row in (random_sum(source, p, rows, length), row_unlike(source, p, rows, length)):
                    if row is not None:
                        self.assertNotEqual(setting(p, words, row) is None, bar(p, words, row) is None)


if __name__ == "__main__":
    unittest.main()
