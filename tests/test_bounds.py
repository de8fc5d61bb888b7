"""Point [2], over all that is there: primes, kinds, nothing changed, and how great what is handed in may be."""

import copy
import unittest

from bentwires.errors import BadWires, NoDrawing
from bentwires.plain import plain
from bentwires.rows import barred, factors_of, reduced, summed, turned
from bentwires.words import read, shown, wires
from tests.oracle import PRIMES, faults_of_reduced, product, random_drawings, random_rows

# Rows of 24 numbers that hold sums of one another, so that no list of them is all steps.
GREAT = {
    p: random_rows(p, p, 12, 24) + [tuple(k * number % p for number in row)
                                    for k in (1, 2, 3, 5) for row in random_rows(p, p, 12, 24)]
    for p in (2, 3, 31, 89, 97)
}


def many_wires(box, count):
    """As many boxes beside one another."""
    return ("beside",) * (count - 1) + box * count


def spread():
    """One wire copied to eight, of the words that this takes."""
    two = ("copy",)
    four = ("then",) + two + ("beside",) + two + two
    return ("then",) + four + ("beside",) * 3 + ("copy",) * 4


class PrimesTest(unittest.TestCase):
    def test_all_primes_from_2_to_97(self):
        self.assertEqual((PRIMES[0], PRIMES[-1], len(PRIMES)), (2, 97, 25))
        for p in PRIMES:
            top = p - 1
            self.assertEqual(turned(p, top), top)
            self.assertEqual(summed(p, [(top, 1)], (top,), 2), (1, top))
            self.assertEqual(reduced(p, [(top, 1), (0, top)]), ((1, 0), (0, 1)))
            self.assertEqual(factors_of(p, [(top,)], (1,)), (top,))
            self.assertEqual(barred(p, [(1, 1)], 2), ((1, top),))
            self.assertEqual(plain(p, ("then", "times", top, "times", top)), ((1, 1),))

    def test_told_are_whole_numbers_below_p(self):
        for p in PRIMES:
            rows = random_rows(3 * p, p, 4, 6)
            lists = [reduced(p, rows), barred(p, rows, 6), (summed(p, rows, (p - 1,) * 4, 6),),
                     (factors_of(p, rows, rows[2]),)]
            lists += [plain(p, words) for words in random_drawings(p, p, 10, 3, 3)]
            for told in lists:
                numbers = [number for row in told for number in row]
                self.assertTrue(all(type(number) is int and 0 <= number < p for number in numbers))
            self.assertTrue(all(type(row) is tuple for told in lists for row in told))


class NothingChangedTest(unittest.TestCase):
    def test_lists_stay_as_they_were(self):
        for p in (2, 5, 97):
            rows = random_rows(p, p, 5, 4) + [(0, 0, 0, 0)]
            factors = [1] * 6
            before = copy.deepcopy(rows)
            for ask in (lambda: reduced(p, rows), lambda: factors_of(p, rows, rows[0]),
                        lambda: barred(p, rows, 4), lambda: summed(p, rows, factors, 4)):
                ask()
                self.assertEqual(rows, before)
            self.assertEqual(factors, [1] * 6)

    def test_lists_and_tuples_tell_the_same(self):
        for p in (2, 5, 97):
            rows = random_rows(7 * p, p, 5, 4)
            some = tuple(rows)
            self.assertEqual(reduced(p, rows), reduced(p, some))
            self.assertEqual(factors_of(p, rows, rows[1]), factors_of(p, some, rows[1]))
            self.assertEqual(barred(p, rows, 4), barred(p, some, 4))
            self.assertEqual(summed(p, rows, (1, 1, 0, 1, 1), 4), summed(p, some, (1, 1, 0, 1, 1), 4))

    def test_what_is_told_stays(self):
        rows = [(1, 0, 2), (0, 1, 3)]
        told = [reduced(5, rows), barred(5, rows, 3), factors_of(5, rows, (1, 1, 0)), summed(5, rows, (1, 1), 3)]
        before = copy.deepcopy(told)
        rows[0] = (4, 4, 4)
        rows.append((0, 0, 1))
        reduced(5, rows)
        barred(5, rows, 3)
        self.assertEqual(told, before)

    def test_asked_again_the_same_is_told(self):
        for words in random_drawings(9, 5, 40, 3, 3):
            one = plain(5, words)
            plain(7, ("times", 3))
            self.assertEqual(plain(5, words), one)
            self.assertEqual(wires(words), wires(tuple(list(words))))


class GreatRowsTest(unittest.TestCase):
    def test_sixty_rows_of_24_numbers(self):
        for p, rows in GREAT.items():
            self.assertEqual((len(rows), {len(row) for row in rows}), (60, {24}))
            told = reduced(p, rows)
            self.assertEqual(faults_of_reduced(told), [])
            self.assertTrue(8 < len(told) <= 12)
            for some, others in ((rows, told), (told, rows)):
                for row in some:
                    factors = factors_of(p, others, row)
                    self.assertEqual(len(factors), len(others))
                    sums = tuple(sum(f * other[k] for f, other in zip(factors, others)) % p for k in range(24))
                    self.assertEqual(sums, row)
                    self.assertEqual(summed(p, others, factors, 24), row)

    def test_what_sixty_rows_bar(self):
        for p, rows in GREAT.items():
            told = barred(p, rows, 24)
            self.assertEqual(faults_of_reduced(told), [])
            self.assertEqual(len(told) + len(reduced(p, rows)), 24)
            self.assertFalse(any(product(p, bar, row) for bar in told for row in rows))

    def test_rows_outside_the_span_of_sixty(self):
        for p, rows in GREAT.items():
            bars = barred(p, rows, 24)
            for row in random_rows(5 * p, p, 20, 24):
                within = not any(product(p, bar, row) for bar in bars)
                self.assertEqual(factors_of(p, rows, row) is not None, within)

    def test_sixty_rows_that_span_all(self):
        for p in (2, 97):
            rows = random_rows(11 * p, p, 60, 24)
            self.assertEqual(reduced(p, rows), barred(p, [], 24))
            self.assertEqual(barred(p, rows, 24), ())


class GreatDrawingsTest(unittest.TestCase):
    def test_eight_wires_to_a_side(self):
        ones = many_wires(("id",), 8)
        self.assertEqual(wires(ones), (8, 8))
        told = plain(97, ones)
        self.assertEqual(told, tuple(tuple(int(k in (n, n + 8)) for k in range(16)) for n in range(8)))
        self.assertEqual(plain(97, ("then",) + ones + ones), told)

    def test_eighty_words(self):
        through = ("then",) + spread() + ("then",) + many_wires(("times", 3), 8) + ("back",) + spread()
        words = ("then", "id") * 14 + through
        self.assertEqual(len(words), 80)
        self.assertEqual(read(97, shown(words)), words)
        self.assertEqual(wires(words), (1, 1))
        self.assertEqual(plain(97, words), ((1, 3),))

    def test_eighty_words_one_within_the_other(self):
        for p in (2, 97):
            self.assertEqual(plain(p, ("back",) * 79 + ("copy",)), ((1, 1, 1),))
            self.assertEqual(wires(("back",) * 79 + ("copy",)), (2, 1))
            chain = ("then", "id") * 39 + ("times", 1)
            self.assertEqual((len(chain), plain(p, chain)), (80, ((1, 1),)))
            left = ("then",) * 39 + ("id",) * 40
            self.assertEqual((len(left), plain(p, left)), (79, ((1, 1),)))

    def test_great_sums(self):
        add_eight = ("then",) + many_wires(("add",), 4) + ("then", "beside", "add", "add", "add")
        self.assertEqual(wires(add_eight), (8, 1))
        self.assertEqual(plain(5, ("then",) + spread() + add_eight), ((1, 3),))
        self.assertEqual(plain(2, ("then",) + spread() + add_eight), ((1, 0),))
        whole = ("then",) + add_eight + spread()
        told = plain(5, whole)
        self.assertEqual(told, tuple(tuple(int(k == n or k >= 8) for k in range(16)) for n in range(8)))


class GreatTextsTest(unittest.TestCase):
    def test_texts_of_1000_signs(self):
        deep = "back " * 199 + "empty"
        self.assertEqual(len(deep), 1000)
        words = read(97, deep)
        self.assertEqual((len(words), shown(words), wires(words), plain(97, words)), (200, deep, (0, 0), ()))
        wide = "beside id " * 99 + "times 96"
        self.assertEqual((wires(read(97, wide)), shown(read(97, wide))), ((100, 100), wide))
        long = "then id " * 124 + "times 96"
        self.assertEqual(len(long), 1000)
        self.assertEqual(plain(97, read(97, long)), ((1, 96),))

    def test_refused_texts_of_1000_signs(self):
        for text in (" " * 1000, "~" * 1000, "9" * 1000, "times " + "1" * 994, "times " + "0" * 994,
                     "back " * 200, "then " * 200, "id " * 333 + "i", "times " * 166 + "none", "id" * 500):
            self.assertEqual(len(text), 1000)
            with self.assertRaises(NoDrawing):
                read(97, text)
        for text, place in (("back " * 197 + "then id swap", 197), ("then id " * 123 + "then copy end", 246)):
            with self.assertRaises(BadWires) as caught:
                read(97, text)
            self.assertEqual(caught.exception.place, place)


if __name__ == "__main__":
    unittest.main()
