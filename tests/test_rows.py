"""Rows of numbers: points [4] and [5]."""

import itertools
import unittest

from bentwires.rows import barred, factors_of, reduced, summed, turned
from tests.oracle import PRIMES, all_rows, faults_of_reduced, product, random_rows, span

# Small lists of rows, for which every sum can be tried out.
SMALL = [
    (2, 3, [(1, 1, 0), (0, 1, 1), (1, 0, 1)]),
    (2, 4, [(1, 1, 1, 1)]),
    (2, 2, [(0, 0), (0, 0)]),
    (3, 3, [(0, 2, 1), (0, 1, 2)]),
    (3, 3, [(2, 1, 0), (1, 1, 1), (2, 1, 0)]),
    (3, 4, [(0, 0, 2, 1), (0, 2, 0, 0), (0, 1, 1, 2)]),
    (5, 2, [(0, 3)]),
    (5, 3, [(2, 4, 1), (3, 1, 1)]),
    (7, 2, [(3, 5), (1, 6)]),
    (7, 1, [(0,), (4,)]),
]
SMALL += [
    (p, length, random_rows(100 * p + 10 * length + count, p, count, length))
    for p in (2, 3, 5) for length in (1, 2, 3) for count in (1, 2, 3, 4)
]


class TurnedTest(unittest.TestCase):
    def test_every_number_of_every_prime(self):
        for p in PRIMES:
            for number in range(1, p):
                told = turned(p, number)
                self.assertIs(type(told), int)
                self.assertTrue(0 < told < p)
                self.assertEqual(told * number % p, 1)


class SummedTest(unittest.TestCase):
    def test_sums_number_by_number(self):
        self.assertEqual(summed(7, [(1, 2, 3), (6, 5, 4)], (2, 3), 3), (6, 5, 4))
        self.assertEqual(summed(2, [(1, 0), (1, 1)], (1, 1), 2), (0, 1))
        self.assertEqual(summed(97, ((96, 1),), (96,), 2), (1, 96))

    def test_of_no_rows(self):
        self.assertEqual(summed(5, [], (), 3), (0, 0, 0))
        self.assertEqual(summed(5, (), (), 0), ())

    def test_of_rows_of_no_numbers(self):
        self.assertEqual(summed(5, [(), ()], (1, 4), 0), ())

    def test_by_trying_all_factors(self):
        for p, length, rows in SMALL[:10]:
            for factors in itertools.product(range(p), repeat=len(rows)):
                asked = tuple(sum(f * row[k] for f, row in zip(factors, rows)) % p for k in range(length))
                self.assertEqual(summed(p, rows, factors, length), asked)


class ReducedTest(unittest.TestCase):
    def test_by_hand(self):
        self.assertEqual(reduced(2, [(1, 1, 0), (0, 1, 1), (1, 0, 1)]), ((1, 0, 1), (0, 1, 1)))
        self.assertEqual(reduced(5, [(0, 3)]), ((0, 1),))
        self.assertEqual(reduced(7, [(2, 4, 1), (1, 2, 4)]), ((1, 2, 4),))
        self.assertEqual(reduced(7, [(0, 0, 5), (3, 6, 2)]), ((1, 2, 0), (0, 0, 1)))
        self.assertEqual(reduced(97, [(96, 1)]), ((1, 96),))

    def test_no_rows_and_rows_of_noughts(self):
        self.assertEqual(reduced(3, []), ())
        self.assertEqual(reduced(3, ()), ())
        self.assertEqual(reduced(3, [(0, 0, 0)]), ())
        self.assertEqual(reduced(3, [(0, 0), (0, 0)]), ())
        self.assertEqual(reduced(3, [(0, 0), (2, 1), (0, 0)]), ((1, 2),))

    def test_rows_of_no_numbers(self):
        self.assertEqual(reduced(3, [()]), ())
        self.assertEqual(reduced(3, ((), (), ())), ())

    def test_a_row_twice(self):
        self.assertEqual(reduced(5, [(2, 3, 1), (2, 3, 1)]), reduced(5, [(2, 3, 1)]))
        self.assertEqual(reduced(5, [(2, 3, 1), (4, 1, 2)]), ((1, 4, 3),))

    def test_each_property_and_the_same_span(self):
        for p, length, rows in SMALL:
            told = reduced(p, rows)
            self.assertEqual(faults_of_reduced(told), [], (p, rows, told))
            self.assertEqual(span(p, told, length), span(p, rows, length))

    def test_it_hangs_on_the_span_alone(self):
        for p, length, rows in SMALL:
            told = reduced(p, rows)
            self.assertEqual(reduced(p, rows[::-1]), told)
            self.assertEqual(reduced(p, tuple(rows)), told)
            self.assertEqual(reduced(p, told), told)
            self.assertEqual(reduced(p, sorted(span(p, rows, length))), told)

    def test_each_row_of_either_list_is_a_sum_of_the_other(self):
        for p in PRIMES:
            rows = random_rows(p, p, 6, 9)
            rows.append(tuple((a + 3 * b) % p for a, b in zip(rows[0], rows[1])))
            told = reduced(p, rows)
            self.assertEqual(faults_of_reduced(told), [])
            for some, others in ((rows, told), (told, rows)):
                for row in some:
                    self.check_factors(p, others, row, factors_of(p, others, row))

    def check_factors(self, p, rows, row, factors):
        self.assertEqual(len(factors), len(rows))
        asked = tuple(sum(f * other[k] for f, other in zip(factors, rows)) % p for k in range(len(row)))
        self.assertEqual(asked, row)


class FactorsTest(unittest.TestCase):
    def check(self, p, rows, row, within):
        told = factors_of(p, rows, row)
        if not within:
            self.assertIsNone(told, (p, rows, row))
            return
        self.assertIs(type(told), tuple, (p, rows, row))
        self.assertEqual(len(told), len(rows))
        self.assertTrue(all(type(factor) is int and 0 <= factor < p for factor in told))
        asked = tuple(sum(f * other[k] for f, other in zip(told, rows)) % p for k in range(len(row)))
        self.assertEqual(asked, row)

    def test_each_row_of_each_small_list(self):
        for p, length, rows in SMALL:
            within = span(p, rows, length)
            for row in all_rows(p, length):
                self.check(p, rows, row, row in within)
                self.check(p, tuple(rows), row, row in within)

    def test_one_answer_only(self):
        self.assertEqual(factors_of(7, [(1, 0, 2), (0, 1, 3)], (4, 5, 2)), (4, 5))
        self.assertEqual(factors_of(97, [(96,)], (1,)), (96,))
        self.assertIsNone(factors_of(7, [(1, 0, 2), (0, 1, 3)], (4, 5, 3)))

    def test_of_no_rows(self):
        for rows in ([], ()):
            self.assertEqual(factors_of(5, rows, (0, 0, 0)), ())
            self.assertEqual(factors_of(5, rows, ()), ())
            self.assertIsNone(factors_of(5, rows, (0, 1, 0)))
            self.assertIsNone(factors_of(5, rows, (4,)))

    def test_rows_of_no_numbers(self):
        self.check(5, [()], (), True)
        self.check(2, [(), (), ()], (), True)

    def test_rows_of_noughts(self):
        self.check(5, [(0, 0)], (0, 0), True)
        self.check(5, [(0, 0)], (0, 3), False)


class BarredTest(unittest.TestCase):
    def test_each_small_list(self):
        for p, length, rows in SMALL:
            told = barred(p, rows, length)
            self.assertEqual(faults_of_reduced(told), [], (p, rows, told))
            asked = {row for row in all_rows(p, length) if not any(product(p, row, other) for other in rows)}
            self.assertEqual(span(p, told, length), asked)
            self.assertEqual(barred(p, tuple(rows), length), told)

    def test_by_hand(self):
        self.assertEqual(barred(5, [(1, 2)], 2), ((1, 2),))
        self.assertEqual(barred(7, [(1, 0, 3)], 3), ((1, 0, 2), (0, 1, 0)))
        self.assertEqual(barred(3, [(1, 0), (0, 2)], 2), ())

    def test_of_no_rows_all_are_barred(self):
        for rows in ([], ()):
            self.assertEqual(barred(3, rows, 3), ((1, 0, 0), (0, 1, 0), (0, 0, 1)))
            self.assertEqual(barred(2, rows, 1), ((1,),))
            self.assertEqual(barred(2, rows, 0), ())

    def test_of_rows_of_noughts_and_of_no_numbers(self):
        self.assertEqual(barred(3, [(0, 0)], 2), ((1, 0), (0, 1)))
        self.assertEqual(barred(3, [(), ()], 0), ())

    def test_what_bars_the_barred_rows_is_the_list_again(self):
        for p in PRIMES:
            rows = random_rows(1000 + p, p, 5, 8)
            told = barred(p, rows, 8)
            self.assertEqual(len(told) + len(reduced(p, rows)), 8)
            self.assertEqual(barred(p, told, 8), reduced(p, rows))


if __name__ == "__main__":
    unittest.main()
