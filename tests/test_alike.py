"""Drawings compared: point [12]."""

import unittest

from bentwires.alike import compared
from bentwires.errors import BadSides, Late
from bentwires.moves import moved, moves
from bentwires.plain import plain
from bentwires.words import read, wires
from tests.oracle import PRIMES, great_drawing, let_by, random_drawings

SAME = [
    (7, "id", "id"),
    (7, "empty", "then none end"),
    (7, "empty", "then cup back cup"),
    (7, "then copy back copy", "id"),
    (7, "then copy add", "times 2"),
    (2, "then copy add", "times 0"),
    (7, "then times 3 times 5", "id"),
    (7, "back times 3", "times 5"),
    (7, "then end none", "beside none end"),
    (7, "then beside cup id beside id back cup", "id"),
    (7, "back cup", "then beside id back id back cup"),
    (7, "cup", "then back end copy"),
    (97, "back times 96", "times 96"),
]

# Of which of both there are rows that only it lets by: the first one alone, the second one alone, or both.
PARTED = [
    (7, "times 2", "times 3", (0, 1)),
    (2, "times 0", "times 1", (0, 1)),
    (7, "end", "back none", (0,)),
    (7, "back none", "end", (1,)),
    (7, "then end none", "beside back none none", (0,)),
    (7, "beside back none none", "then end none", (1,)),
    (7, "then end back end", "id", (0,)),
    (7, "id", "then end back end", (1,)),
    (7, "beside id id", "then back copy copy", (0,)),
    (7, "then back copy copy", "beside id id", (1,)),
    (7, "beside id id", "swap", (0, 1)),
    (7, "times 0", "back times 0", (0, 1)),
    (97, "times 95", "times 96", (0, 1)),
    (3, "cup", "beside back end back end", (1,)),
    (3, "cup", "beside none none", (0,)),
    (3, "add", "back copy", (0, 1)),
]


class SameTest(unittest.TestCase):
    def test_by_hand(self):
        for p, one, other in SAME:
            for first, second in ((one, other), (other, one), (one, one)):
                told = compared(p, read(p, first), read(p, second))
                self.assertEqual(told, ("same",), (p, first, second))
                self.assertIs(type(told), tuple)


class PartedTest(unittest.TestCase):
    def check(self, p, one, other, told, whiches):
        self.assertIs(type(told), tuple)
        self.assertEqual((len(told), told[0]), (3, "parted"), (p, one, other))
        self.assertIs(type(told[1]), tuple)
        self.assertEqual(len(told[1]), sum(wires(one)))
        self.assertTrue(all(type(number) is int and 0 <= number < p for number in told[1]))
        self.assertIs(type(told[2]), int)
        self.assertIn(told[2], whiches, (p, one, other))

    def test_by_hand(self):
        for p, first, second, whiches in PARTED:
            one, other = read(p, first), read(p, second)
            told = compared(p, one, other)
            self.check(p, one, other, told, whiches)
            if p < 10:
                rows = (let_by(p, one), let_by(p, other))
                self.assertIn(told[1], rows[told[2]])
                self.assertNotIn(told[1], rows[1 - told[2]])

    def test_factors_at_each_prime(self):
        for p in PRIMES:
            for one, other in ((0, 1), (p - 1, 0), (1, p // 2 + 1), (p // 2, p // 2)):
                one, other = one % p, other % p
                told = compared(p, ("times", one), ("times", other))
                if one == other:
                    self.assertEqual(told, ("same",))
                    continue
                self.check(p, ("times", one), ("times", other), told, (0, 1))
                (a, b), which = told[1:]
                self.assertEqual(((one, other)[which] * a - b) % p, 0)
                self.assertNotEqual(((other, one)[which] * a - b) % p, 0)

    def test_many_by_trying_all_rows(self):
        counts = {}
        for p, side in ((2, 1), (3, 1), (2, 2)):
            drawings = random_drawings(60 + p + side, p, 120, side, 3)
            rows = [let_by(p, words) for words in drawings]
            for k, one in enumerate(drawings):
                for n in range(k, len(drawings), 7):
                    other = drawings[n]
                    if wires(one) != wires(other):
                        with self.assertRaises(BadSides):
                            compared(p, one, other)
                        kind = "sides"
                    else:
                        kind = self.check_pair(p, one, other, rows[k], rows[n])
                    counts[kind] = counts.get(kind, 0) + 1
        self.assertEqual(set(counts), {"sides", "same", "first", "second"})
        self.assertTrue(all(count > 20 for count in counts.values()), counts)

    def check_pair(self, p, one, other, rows, others):
        told = compared(p, one, other)
        self.assertEqual(told == ("same",), rows == others, (p, one, other))
        self.assertEqual(told == ("same",), plain(p, one) == plain(p, other))
        if told == ("same",):
            return "same"
        self.check(p, one, other, told, (0, 1))
        mine, its = (rows, others) if told[2] == 0 else (others, rows)
        self.assertIn(told[1], mine)
        self.assertNotIn(told[1], its)
        return ("first", "second")[told[2]]


class GreatTest(unittest.TestCase):
    def test_moved_and_changed_drawings_of_80_words(self):
        parted = 0
        for p in (2, 31, 97):
            for seed in range(10):
                words = great_drawing(seed, p, 80)
                for at, rule in moves(p, words)[:6]:
                    self.assertEqual(compared(p, words, moved(p, words, at, rule)), ("same",))
                other = tuple((word + 1) % p if isinstance(word, int) else word for word in words)
                told = compared(p, words, other)
                self.assertEqual(told == ("same",), plain(p, words) == plain(p, other))
                if told != ("same",):
                    parted += 1
                    self.check_parted(p, (plain(p, words), plain(p, other)), told)
        self.assertGreater(parted, 8)

    def check_parted(self, p, forms, told):
        within = []
        for rows in forms:
            leads = [next(k for k, number in enumerate(one) if number) for one in rows]
            total = [sum(told[1][lead] * one[k] for lead, one in zip(leads, rows)) % p for k in range(len(told[1]))]
            within.append(tuple(total) == told[1])
        self.assertEqual(within, [told[2] == 0, told[2] == 1])

    def test_one_within_the_other(self):
        for p in (2, 97):
            for seed in range(10):
                words = great_drawing(seed, p, 80)
                left, right = wires(words)
                every = ("beside", "empty") + ("beside", "end") * left + ("beside", "back", "end") * right + ("empty",)
                told = compared(p, every, words)
                if len(plain(p, words)) == left + right:
                    self.assertEqual(told, ("same",))
                    continue
                self.assertEqual((told[0], told[2]), ("parted", 0))
                self.assertEqual(compared(p, words, every)[2], 1)
                self.check_parted(p, (plain(p, every), plain(p, words)), told)


class RefusedTest(unittest.TestCase):
    def test_other_sides(self):
        for one, other in (("id", "end"), ("id", "none"), ("copy", "add"), ("copy", "back copy"), ("id", "swap"),
                           ("cup", "id"), ("cup", "back cup"), ("empty", "id"), ("end", "none"), ("end", "empty"),
                           ("beside id end", "id"), ("then copy add", "copy")):
            for first, second in ((one, other), (other, one)):
                with self.assertRaises(BadSides, msg=(first, second)):
                    compared(5, read(5, first), read(5, second))

    def test_late(self):
        for one, other in (("late", "id"), ("late", "late"), ("back late", "times 2"), ("then late late", "late"),
                           ("beside late id", "swap"), ("then copy beside late id", "copy")):
            for first, second in ((one, other), (other, one)):
                with self.assertRaises(Late, msg=(first, second)):
                    compared(5, read(5, first), read(5, second))

    def test_bad_sides_where_both_fit(self):
        for one, other in (("late", "swap"), ("late", "end"), ("late", "then late end"), ("late", "beside late late"),
                           ("then late copy", "late"), ("beside late end", "then late copy"), ("empty", "late"),
                           ("then late copy", "back then late copy")):
            for first, second in ((one, other), (other, one)):
                with self.assertRaises(BadSides, msg=(first, second)):
                    compared(5, read(5, first), read(5, second))


if __name__ == "__main__":
    unittest.main()
