"""What is let by: points [8] and [9], and the first sentence of [3]."""

import unittest

from bentwires.errors import Late
from bentwires.plain import plain
from bentwires.words import read, wires
from tests.oracle import PRIMES, faults_of_reduced, let_by, random_drawings, span

# The plain form of each box and of each turned about, the same for every p.
BOXES = [
    ("id", ((1, 1),)),
    ("swap", ((1, 0, 0, 1), (0, 1, 1, 0))),
    ("copy", ((1, 1, 1),)),
    ("end", ((1,),)),
    ("none", ()),
    ("cup", ((1, 1),)),
    ("empty", ()),
    ("times 0", ((1, 0),)),
    ("times 1", ((1, 1),)),
    ("add", ((1, 0, 1), (0, 1, 1))),
    ("back id", ((1, 1),)),
    ("back swap", ((1, 0, 0, 1), (0, 1, 1, 0))),
    ("back copy", ((1, 1, 1),)),
    ("back end", ((1,),)),
    ("back none", ()),
    ("back cup", ((1, 1),)),
    ("back empty", ()),
    ("back times 0", ((0, 1),)),
    ("back times 1", ((1, 1),)),
]

# Drawings of several boxes, with p and the plain form worked out by hand.
DRAWN = [
    (5, "back add", ((1, 0, 1), (0, 1, 4))),
    (2, "back add", ((1, 0, 1), (0, 1, 1))),
    (5, "times 3", ((1, 3),)),
    (5, "back times 3", ((1, 2),)),
    (97, "times 96", ((1, 96),)),
    (5, "beside times 2 times 3", ((1, 0, 2, 0), (0, 1, 0, 3))),
    (5, "beside none end", ((1, 0),)),
    (5, "beside end none", ((1, 0),)),
    (5, "beside copy none", ((1, 1, 1, 0),)),
    (5, "beside none copy", ((1, 0, 1, 1),)),
    (5, "beside add cup", ((1, 0, 1, 0, 0), (0, 1, 1, 0, 0), (0, 0, 0, 1, 1))),
    (5, "beside empty copy", ((1, 1, 1),)),
    (5, "then copy add", ((1, 2),)),
    (2, "then copy add", ((1, 0),)),
    (5, "then times 2 times 4", ((1, 3),)),
    (5, "then add copy", ((1, 0, 1, 1), (0, 1, 1, 1))),
    (5, "then end none", ((1, 0),)),
    (5, "then none end", ()),
    (5, "then none times 3", ()),
    (5, "then copy swap", ((1, 1, 1),)),
    (5, "then back copy copy", ((1, 1, 1, 1),)),
    (5, "then back times 0 times 0", ()),
    (5, "then times 0 back times 0", ((1, 0), (0, 1))),
    (5, "then back end end", ()),
    # Bent wires.
    (7, "then beside cup id beside id back cup", ((1, 1),)),
    (7, "then beside id cup beside back cup id", ((1, 1),)),
    (7, "then cup back cup", ()),
    (7, "then cup beside times 2 id", ((1, 4),)),
    (7, "then beside times 2 id back cup", ((1, 2),)),
    (7, "then cup add", ((1,),)),
    (2, "then cup add", ()),
    (7, "then cup beside id copy", ((1, 1, 1),)),
    (7, "then beside cup cup beside id beside back cup id", ((1, 1),)),
    # A wire led back through a sum, x + y = y, leaves x no number but 0.
    (7, "then beside id cup then beside add id back cup", ()),
    (7, "then beside id cup then beside add times 3 back cup", ((1,),)),
    # No row let by but noughts, on wires and on none.
    (7, "then copy beside back none back none", ()),
    (7, "beside none none", ()),
    (7, "beside back none none", ()),
    (7, "beside empty empty", ()),
    (7, "then empty empty", ()),
    (7, "then copy then add back none", ()),
]


class BoxesTest(unittest.TestCase):
    def test_each_box_at_each_prime(self):
        for p in PRIMES:
            for text, rows in BOXES:
                self.assertEqual(plain(p, read(p, text)), rows, (p, text))
            self.assertEqual(plain(p, ("back", "add")), ((1, 0, 1), (0, 1, p - 1)))

    def test_each_factor_of_each_prime(self):
        for p in PRIMES:
            for number in range(1, p):
                self.assertEqual(plain(p, ("times", number)), ((1, number),))
                turned = [k for k in range(p) if k * number % p == 1]
                self.assertEqual(plain(p, ("back", "times", number)), ((1, turned[0]),))

    def test_each_box_lets_by_what_it_is_told_to(self):
        for p in (2, 3, 5, 7):
            for text in [text for text, rows in BOXES] + ["add", "back add", f"times {p - 1}", f"back times {p - 1}"]:
                words = read(p, text)
                self.assertEqual(span(p, plain(p, words), sum(wires(words))), let_by(p, words), (p, text))


class DrawnTest(unittest.TestCase):
    def test_by_hand(self):
        for p, text, rows in DRAWN:
            told = plain(p, read(p, text))
            self.assertEqual(told, rows, (p, text))
            self.assertEqual(faults_of_reduced(told), [], (p, text))

    def test_back_beside_and_then_by_trying_all_rows(self):
        boxes = ["id", "swap", "copy", "end", "add", "none", "times 2", "times 0", "cup", "empty"]
        boxes += [f"back {box}" for box in boxes]
        for one in boxes:
            for other in boxes:
                self.check(3, read(3, f"beside {one} {other}"))
                a = wires(read(3, one))
                b = wires(read(3, other))
                if a[1] == b[0]:
                    self.check(3, read(3, f"then {one} {other}"))
                    self.check(3, read(3, f"back then {one} {other}"))

    def test_many_drawings_by_trying_all_rows(self):
        for p, side in ((2, 3), (3, 2), (5, 1)):
            for words in random_drawings(p, p, 200, side, 4):
                self.check(p, words)

    def check(self, p, words):
        told = plain(p, words)
        length = sum(wires(words))
        self.assertEqual(faults_of_reduced(told), [], words)
        self.assertTrue(all(len(row) == length for row in told), words)
        self.assertEqual(span(p, told, length), let_by(p, words), words)


class OneFormTest(unittest.TestCase):
    def test_the_same_rows_just_where_the_forms_are_one(self):
        for p in (2, 3):
            told = {}
            for words in random_drawings(40 + p, p, 400, 1, 4):
                key = (wires(words), frozenset(let_by(p, words)))
                told.setdefault(key, set()).add(plain(p, words))
            self.assertGreater(len(told), 8)
            self.assertTrue(all(len(forms) == 1 for forms in told.values()))
            forms = [(key[0], form) for key, some in told.items() for form in some]
            self.assertEqual(len(forms), len(set(forms)))

    def test_alike_and_not(self):
        pairs = [
            ("then copy beside copy id", "then copy beside id copy", True),
            ("then add copy",
             "then beside copy copy then beside id beside swap id beside add add", True),
            ("then copy back copy", "id", True),
            ("back then copy beside end times 3", "then beside back end back times 3 back copy", True),
            ("then times 3 times 5", "id", True),
            ("then copy add", "times 2", True),
            ("times 2", "times 3", False),
            ("times 3", "back times 3", False),
            ("then back copy copy", "swap", False),
            ("beside id id", "swap", False),
            ("then end none", "beside end none", True),
            ("then end none", "beside none end", True),
            ("then end none", "beside back none none", False),
        ]
        for one, other, alike in pairs:
            same = plain(7, read(7, one)) == plain(7, read(7, other))
            self.assertEqual(same, alike, (one, other))


class LateTest(unittest.TestCase):
    def test_a_drawing_with_late_is_refused(self):
        for text in ("late", "back late", "beside id late", "beside late id", "then late late", "then copy beside late id",
                     "beside times 2 back then id late", "then then end empty then none late"):
            words = read(5, text)
            with self.assertRaises(Late, msg=text):
                plain(5, words)


if __name__ == "__main__":
    unittest.main()
