"""Drawings drawn from a plain form: point [13]."""

import itertools
import random
import unittest

from bentwires.drawn import drawn
from bentwires.plain import plain
from bentwires.rows import barred, reduced
from bentwires.words import read, shown, wires
from tests.oracle import PRIMES, SIDES, faults_of_reduced, let_by, span


def every_reduced_list(p, length):
    """All reduced lists of rows of this length."""
    found = []
    for count in range(length + 1):
        for leads in itertools.combinations(range(length), count):
            free = [(k, place) for k, lead in enumerate(leads) for place in range(lead + 1, length)
                    if place not in leads]
            for numbers in itertools.product(range(p), repeat=len(free)):
                rows = [[int(place == lead) for place in range(length)] for lead in leads]
                for (k, place), number in zip(free, numbers):
                    rows[k][place] = number
                found.append(tuple(tuple(row) for row in rows))
    return found


def random_reduced(source, p, count, length, filling):
    """A reduced list with its steps anywhere, and as large a part of its free numbers not 0 as told."""
    leads = sorted(source.sample(range(length), count))
    rows = []
    for lead in leads:
        row = [0] * length
        for place in range(lead + 1, length):
            if place not in leads and source.random() < filling:
                row[place] = source.randrange(1, p)
        row[lead] = 1
        rows.append(tuple(row))
    return tuple(rows)


class DrawnTest(unittest.TestCase):
    def check(self, p, rows, left, right):
        words = drawn(p, rows, left, right)
        self.assertIs(type(words), tuple)
        for ahead, word in zip(("",) + words, words):
            if ahead == "times":
                self.assertTrue(type(word) is int and 0 <= word < p, words)
            else:
                self.assertTrue(word in SIDES or word in ("back", "beside", "then"), words)
        self.assertNotIn("late", words)
        self.assertEqual(wires(words), (left, right), (p, rows))
        self.assertEqual(plain(p, words), tuple(rows), (p, rows, left, right))
        self.assertEqual(read(p, shown(words)), words)
        return words

    def test_of_no_rows(self):
        for p in (2, 97):
            for left, right in itertools.product(range(9), repeat=2):
                for rows in ((), []):
                    self.check(p, rows, left, right)

    def test_rows_of_no_numbers(self):
        for p in PRIMES:
            for rows in ((), [], reduced(p, [()]), reduced(p, [(), ()])):
                self.check(p, rows, 0, 0)

    def test_of_all_rows(self):
        for p in (2, 97):
            for left, right in itertools.product(range(9), repeat=2):
                self.check(p, barred(p, [], left + right), left, right)

    def test_every_short_list(self):
        for p, most in ((2, 5), (3, 3), (5, 2)):
            for length in range(most + 1):
                for rows in every_reduced_list(p, length):
                    self.assertEqual(faults_of_reduced(rows), [])
                    for left in range(length + 1):
                        self.check(p, rows, left, length - left)

    def test_what_is_drawn_lets_by_the_span(self):
        for p, length in ((2, 4), (3, 3)):
            for rows in every_reduced_list(p, length):
                for left in range(length + 1):
                    words = drawn(p, rows, left, length - left)
                    if len(words) < 40:
                        self.assertEqual(let_by(p, words), span(p, rows, length), (p, rows, left))

    def test_each_number_of_each_prime(self):
        for p in PRIMES:
            for number in range(p):
                for left in (0, 1, 2):
                    self.check(p, ((1, number),), left, 2 - left)

    def test_up_to_eight_wires_to_each_side(self):
        source = random.Random(13)
        for p in (2, 3, 61, 97):
            for left, right in [(8, 8)] * 24 + [(8, 0), (0, 8), (8, 1), (1, 8), (7, 8), (5, 5), (8, 3), (0, 5)] * 2:
                for filling in (1, 0.4):
                    count = source.randrange(left + right + 1)
                    rows = random_reduced(source, p, count, left + right, filling)
                    self.assertEqual(faults_of_reduced(rows), [])
                    self.check(p, rows, left, right)

    def test_steps_at_the_left_wires_at_the_right_ones_and_at_both(self):
        source = random.Random(14)
        for p in (2, 97):
            for count in range(17):
                rows = random_reduced(source, p, count, 16, 1)
                self.check(p, rows, 8, 8)
                first = tuple(tuple(int(k == n) if k < count else source.randrange(p) for k in range(16))
                              for n in range(count))
                self.check(p, first, 8, 8)
                last = tuple(tuple(int(k == n + 16 - count) for k in range(16)) for n in range(count))
                self.check(p, last, 8, 8)

    def test_lists_and_tuples_of_rows(self):
        source = random.Random(15)
        for p in (2, 5, 97):
            for length in range(1, 9):
                rows = random_reduced(source, p, source.randrange(length + 1), length, 1)
                left = source.randrange(length + 1)
                some = list(rows)
                self.assertEqual(drawn(p, some, left, length - left), self.check(p, rows, left, length - left))
                self.assertEqual(some, list(rows))


if __name__ == "__main__":
    unittest.main()
