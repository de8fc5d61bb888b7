"""Moves: points [14] and [15]."""

import random
import unittest

from bentwires.errors import NoMove, WireError
from bentwires.moves import moved, moves
from bentwires.plain import plain
from bentwires.words import read, shown, wires
from tests.oracle import (
    PRIMES, great_drawing, let_by, places_of_trees, random_drawings, tree_at, tree_of, tree_sides, words_of_tree)

# At p = 11: a rule, a drawing that it fits, and what that is moved to.
FITTING = [
    ("twice", "back back add", "add"),
    ("twice", "back back back copy", "back copy"),
    ("twice", "back back then copy beside times 3 end", "then copy beside times 3 end"),
    ("turnthen", "back then copy add", "then back add back copy"),
    ("turnthen", "back then beside times 2 id then add end", "then back then add end back beside times 2 id"),
    ("turnbeside", "back beside copy times 4", "beside back copy back times 4"),
    ("turnbeside", "back beside then end none beside cup id", "beside back then end none back beside cup id"),
    ("thread", "then then copy swap add", "then copy then swap add"),
    ("thread", "then then then id copy beside id end then id times 3",
     "then then id copy then beside id end then id times 3"),
    ("stack", "beside beside copy end times 3", "beside copy beside end times 3"),
    ("stack", "beside beside then id id beside end end back add", "beside then id id beside beside end end back add"),
    ("cross", "then beside copy id beside add times 2", "beside then copy add then id times 2"),
    ("cross", "then beside end none beside empty end", "beside then end empty then none end"),
    ("cross", "then beside then id copy cup beside beside id end back cup",
     "beside then then id copy beside id end then cup back cup"),
    ("lone", "then id copy", "copy"),
    ("lone", "then add id", "add"),
    ("lone", "then id id", "id"),
    ("lone", "then id then id times 3", "then id times 3"),
    ("lone", "then then id times 3 id", "then id times 3"),
    ("lone", "then id then times 3 id", "then times 3 id"),
    ("bare", "beside empty copy", "copy"),
    ("bare", "beside add empty", "add"),
    ("bare", "beside empty empty", "empty"),
    ("bare", "beside empty beside copy empty", "beside copy empty"),
    ("bare", "beside beside empty copy empty", "beside empty copy"),
    ("undo", "then swap swap", "beside id id"),
    ("copyend", "then copy beside end id", "id"),
    ("copyturn", "then copy swap", "copy"),
    ("copycopy", "then copy beside copy id", "then copy beside id copy"),
    ("addnone", "then beside none id add", "id"),
    ("addturn", "then swap add", "add"),
    ("addadd", "then beside add id add", "then beside id add add"),
    ("scale", "then times 3 times 5", "times 4"),
    ("scale", "then times 0 times 5", "times 0"),
    ("scale", "then times 10 times 10", "times 1"),
    ("scale", "then times 1 times 1", "times 1"),
    ("one", "times 1", "id"),
    ("nought", "times 0", "then end none"),
    ("sumcopy", "then add copy", "then beside copy copy then beside id beside swap id beside add add"),
    ("sumend", "then add end", "beside end end"),
    ("nonecopy", "then none copy", "beside none none"),
    ("noneend", "then none end", "empty"),
    ("scalecopy", "then times 7 copy", "then copy beside times 7 times 7"),
    ("scalecopy", "then times 0 copy", "then copy beside times 0 times 0"),
    ("scaleadd", "then add times 7", "then beside times 7 times 7 add"),
    ("scaleadd", "then add times 0", "then beside times 0 times 0 add"),
    ("bend", "then beside cup id beside id back cup", "id"),
    ("turnscale", "back times 3", "times 4"),
    ("turnscale", "back times 1", "times 1"),
    ("turnscale", "back times 10", "times 10"),
    ("meet", "then copy back copy", "id"),
    ("turnid", "back id", "id"),
    ("turnid", "back swap", "swap"),
    ("turnid", "back empty", "empty"),
]

# Drawings that a rule all but fits.
UNFIT = [
    ("twice", ["back id", "back then back id back id", "then back id back id", "id", "empty"]),
    ("turnthen", ["back beside copy add", "then back copy back add", "back back then copy add", "then copy add"]),
    ("turnbeside", ["back then copy add", "beside back copy back add", "back back beside id id", "beside copy add"]),
    ("thread", ["then copy then swap add", "then copy add", "beside then id id id", "then beside id id add",
                "then back then copy add id"]),
    ("stack", ["beside copy beside end id", "beside copy add", "then beside id id add", "beside then id id id"]),
    ("cross", ["then beside copy id beside id add", "then beside id copy beside add id", "then beside none id beside empty add",
               "then copy beside id id", "then beside id id add", "beside beside id id beside id id",
               "then beside id id back beside id id", "then then beside id id swap beside id id",
               "then beside end cup beside id id", "then beside cup end beside id id"]),
    ("lone", ["then copy add", "then beside id id swap", "then swap beside id id", "then back id copy", "then times 1 copy",
              "beside id copy", "then then id id copy", "id", "then add back id", "back id", "then empty empty"]),
    ("bare", ["beside copy add", "then empty empty", "beside back empty id", "beside id back empty", "empty",
              "beside then empty empty id", "beside id then none end", "back empty"]),
    ("undo", ["then swap add", "then swap back swap", "then back swap swap", "beside swap swap", "swap",
              "then swap then swap swap", "then swap beside id id"]),
    ("copyend", ["then copy beside id end", "then copy beside end end", "then copy beside end times 1",
                 "then back add beside end id", "copy", "then copy beside end back id", "beside copy beside end id"]),
    ("copyturn", ["then copy add", "then copy back swap", "then copy beside id id", "then cup swap", "beside copy swap",
                  "then swap back copy", "then copy then swap swap", "then back add swap"]),
    ("copycopy", ["then copy beside id copy", "then copy beside copy copy", "then copy beside copy times 1",
                  "then back add beside copy id", "then cup beside copy id", "then copy swap"]),
    ("addnone", ["then beside id none add", "then beside none none add", "then beside none times 1 add",
                 "then beside none id back copy", "then beside back end id add", "add"]),
    ("addturn", ["then swap back copy", "then back swap add", "then swap swap", "beside swap add", "then beside id id add",
                 "then swap then add id"]),
    ("addadd", ["then beside id add add", "then beside add add add", "then beside add times 1 add",
                "then beside add id back copy", "then beside back copy id add"]),
    ("scale", ["beside times 3 times 5", "then times 3 back times 5", "then back times 3 times 5", "then times 3 id",
               "then id times 3", "times 3", "then times 3 then times 5 id"]),
    ("one", ["times 0", "times 2", "times 10", "id", "back times 1"]),
    ("nought", ["times 1", "times 10", "then end none", "back times 0"]),
    ("sumcopy", ["then copy add", "then add back add", "then back copy copy", "beside add copy", "add",
                 "then add then id copy"]),
    ("sumend", ["then add back none", "then back copy end", "beside add end", "then add copy", "beside end end"]),
    ("nonecopy", ["then back end copy", "then none back add", "beside none copy", "then none end", "beside none none"]),
    ("noneend", ["then back end end", "then none back none", "beside none end", "then end none", "then none copy"]),
    ("scalecopy", ["then back times 7 copy", "then times 7 back add", "beside times 7 copy", "then id copy",
                   "then times 7 end", "then add times 7"]),
    ("scaleadd", ["then add back times 7", "then back copy times 7", "beside add times 7", "then add id",
                  "then times 7 copy"]),
    ("bend", ["then beside id cup beside back cup id", "then beside cup id beside id beside end end",
              "then beside cup times 1 beside id back cup", "then beside cup id beside times 1 back cup",
              "then beside cup id beside id add", "cup", "beside cup id"]),
    ("turnscale", ["back times 0", "times 3", "times 0", "back id", "back back times 3", "back late"]),
    ("meet", ["then back copy copy", "then copy add", "beside copy back copy", "copy", "back copy",
              "then back add back copy"]),
    ("turnid", ["id", "swap", "empty", "back times 1", "back copy", "back back id", "back cup", "back end", "back add",
                "back none", "back late", "back then id id"]),
]

NO_RULES = ["", " ", "id", "back", "then", "Twice", "TWICE", "twice ", " twice", "twic", "two", "unmeet", "none", "k",
            "A", "0", "turn", "copyadd", "scaleend", "~", "twice thread", "back back A"]

RULES = sorted(rule for rule, texts in UNFIT)


def by_tree(p, tree, rule):
    """What a rule makes of a drawing told as a tree, or None: the document's words over again."""
    match (rule,) + tree:
        case "twice", "back", ("back", a):
            return a
        case "turnthen", "back", ("then", a, b):
            return ("then", ("back", b), ("back", a))
        case "turnbeside", "back", ("beside", a, b):
            return ("beside", ("back", a), ("back", b))
        case "thread", "then", ("then", a, b), c:
            return ("then", a, ("then", b, c))
        case "stack", "beside", ("beside", a, b), c:
            return ("beside", a, ("beside", b, c))
        case "cross", "then", ("beside", a, b), ("beside", c, d) if tree_sides(a)[1] == tree_sides(c)[0]:
            return ("beside", ("then", a, c), ("then", b, d))
        case ("lone", "then", ("id",), a) | ("lone", "then", a, ("id",)):
            return a
        case ("bare", "beside", ("empty",), a) | ("bare", "beside", a, ("empty",)):
            return a
        case "scale", "then", ("times", k), ("times", l):
            return ("times", k * l % p)
        case "scalecopy", "then", ("times", k), ("copy",):
            return ("then", ("copy",), ("beside", ("times", k), ("times", k)))
        case "scaleadd", "then", ("add",), ("times", k):
            return ("then", ("beside", ("times", k), ("times", k)), ("add",))
        case "turnscale", "back", ("times", k) if k:
            return ("times", next(n for n in range(p) if n * k % p == 1))
    return FIXED.get((rule, tree))


# What the rules that hold no letters make of the drawings that they fit.
FIXED = {
    (rule, tree_of(read(11, one))): tree_of(read(11, other)) for rule, one, other in FITTING
    if rule in ("undo", "copyend", "copyturn", "copycopy", "addnone", "addturn", "addadd", "one", "nought", "sumcopy",
                "sumend", "nonecopy", "noneend", "bend", "meet", "turnid")
}


def by_words(p, words):
    """What all moves that fit make of a drawing, by their words and rules."""
    found = {}
    for at, tree in places_of_trees(words).items():
        for rule in RULES:
            told = by_tree(p, tree, rule)
            if told is not None:
                found[at, rule] = words[:at] + words_of_tree(told) + words[tree_at(words, at)[1]:]
    return found


def around(text):
    """Texts in which a drawing stands, and the word at which it does."""
    words = read(11, text)
    left, right = wires(words)
    straight = " ".join(["beside id"] * (right - 1) + ["id"]) if right else "empty"
    ahead = " ".join(["beside times 2"] * (left - 1) + ["times 2"]) if left else "empty"
    return [
        (f"back {text}", 1), (f"beside {text} add", 1), (f"beside add {text}", 2), (f"beside times 5 {text}", 3),
        (f"then {text} {straight}", 1), (f"then {ahead} {text}", 1 + len(ahead.split())),
        (f"beside times 5 back beside copy {text}", 6), (f"back back beside {text} cup", 3),
    ]


class EachRuleTest(unittest.TestCase):
    def test_there_are_28_rules(self):
        self.assertEqual(len(RULES), 28)
        self.assertEqual(RULES, sorted({rule for rule, one, other in FITTING}))

    def test_fitting_by_itself(self):
        for rule, text, asked in FITTING:
            told = moved(11, read(11, text), 0, rule)
            self.assertIs(type(told), tuple)
            self.assertEqual(shown(told), asked, (rule, text))
            self.assertEqual(told, read(11, asked))
            self.assertIn((0, rule), moves(11, read(11, text)))

    def test_not_fitting(self):
        for rule, texts in UNFIT:
            for text in texts:
                words = read(11, text)
                with self.assertRaises(NoMove, msg=(rule, text)):
                    moved(11, words, 0, rule)
                self.assertNotIn((0, rule), moves(11, words))

    def test_within_a_drawing(self):
        for rule, text, asked in FITTING:
            for whole, at in around(text):
                words = read(11, whole)
                end = at + len(read(11, text))
                told = moved(11, words, at, rule)
                self.assertEqual(told, words[:at] + read(11, asked) + words[end:], (rule, whole))
                self.assertIn((at, rule), moves(11, words))

    def test_not_fitting_within_a_drawing(self):
        for rule, texts in UNFIT:
            for text in texts:
                for whole, at in around(text):
                    with self.assertRaises(NoMove, msg=(rule, whole)):
                        moved(11, read(11, whole), at, rule)

    def test_factors_at_each_prime(self):
        for p in PRIMES:
            for k in sorted({0, 1, 2 % p, p // 2, p - 1}):
                for other in sorted({0, 1, p // 2, p - 1}):
                    words = ("then", "times", k, "times", other)
                    self.assertEqual(moved(p, words, 0, "scale"), ("times", k * other % p))
                if k:
                    told = moved(p, ("back", "times", k), 0, "turnscale")
                    self.assertEqual((len(told), told[0], told[1] * k % p), (2, "times", 1))
                    self.assertTrue(0 < told[1] < p)
                self.check_fits(p, k)

    def check_fits(self, p, k):
        self.assertEqual((0, "one") in moves(p, ("times", k)), k == 1)
        self.assertEqual((0, "nought") in moves(p, ("times", k)), k == 0)
        self.assertEqual((0, "turnscale") in moves(p, ("back", "times", k)), k != 0)
        for rule, fits in (("one", k == 1), ("nought", k == 0)):
            if not fits:
                with self.assertRaises(NoMove):
                    moved(p, ("times", k), 0, rule)
        if k == 0:
            with self.assertRaises(NoMove):
                moved(p, ("back", "times", 0), 0, "turnscale")

    def test_a_rule_that_is_none(self):
        for rule in NO_RULES:
            for rule_of, text, asked in FITTING:
                with self.assertRaises(NoMove, msg=(rule, text)):
                    moved(11, read(11, text), 0, rule)

    def test_no_move_is_a_refusal(self):
        with self.assertRaises(WireError):
            moved(11, ("id",), 0, "twice")


class PlacesTest(unittest.TestCase):
    def test_a_number_begins_no_drawing(self):
        for text in ("times 1", "back times 1", "then times 1 times 0", "beside id times 1", "beside times 1 id"):
            words = read(11, text)
            for at in [k for k, word in enumerate(words) if isinstance(word, int)]:
                for rule in RULES:
                    with self.assertRaises(NoMove, msg=(text, at, rule)):
                        moved(11, words, at, rule)
                self.assertNotIn(at, [word for word, rule in moves(11, words)])

    def test_ahead_of_the_first_word_and_behind_the_last(self):
        for rule, text, asked in FITTING:
            words = read(11, text)
            for at in (-1, -2, -len(words), -len(words) - 1, len(words), len(words) + 1, 2 * len(words), 1000):
                with self.assertRaises(NoMove, msg=(text, at)):
                    moved(11, words, at, rule)

    def test_one_place_only_is_moved(self):
        words = read(11, "beside times 1 beside times 1 times 1")
        self.assertEqual(moves(11, words), [(1, "one"), (4, "one"), (6, "one")])
        self.assertEqual(shown(moved(11, words, 1, "one")), "beside id beside times 1 times 1")
        self.assertEqual(shown(moved(11, words, 4, "one")), "beside times 1 beside id times 1")
        self.assertEqual(shown(moved(11, words, 6, "one")), "beside times 1 beside times 1 id")


def drawings():
    """Drawings of many kinds, with their p."""
    found = []
    for p, side in ((2, 3), (3, 2), (5, 1)):
        found += [(p, words) for words in random_drawings(30 + p, p, 80, side, 4)]
    for rule, text, asked in FITTING:
        found += [(11, read(11, whole)) for whole, at in around(text)[:3]]
    return found


class ListTest(unittest.TestCase):
    def test_by_hand(self):
        for text, asked in (
            ("id", []), ("empty", []), ("times 3", []),
            ("times 1", [(0, "one")]),
            ("then id id", [(0, "lone")]),
            ("back back back id", [(0, "twice"), (1, "twice"), (2, "turnid")]),
            ("back then id times 0", [(0, "turnthen"), (1, "lone"), (3, "nought")]),
            ("then then times 1 times 1 copy", [(0, "thread"), (1, "scale"), (2, "one"), (4, "one")]),
            ("then beside empty id beside empty id", [(0, "cross"), (1, "bare"), (4, "bare")]),
            ("beside beside empty empty empty", [(0, "bare"), (0, "stack"), (1, "bare")]),
            ("then times 1 copy", [(0, "scalecopy"), (1, "one")]),
            ("then beside cup id beside id back cup", [(0, "bend")]),
            ("then then beside id empty beside empty id id",
             [(0, "lone"), (0, "thread"), (2, "bare"), (5, "bare")]),
        ):
            told = moves(11, read(11, text))
            self.assertEqual(told, asked, text)
            self.assertIs(type(told), list)
            self.assertTrue(all(type(one) is tuple for one in told))

    def test_the_list_and_each_move_as_the_document_words_them(self):
        seen = set()
        for p, words in drawings():
            asked = by_words(p, words)
            self.assertEqual(moves(p, words), sorted(asked), words)
            for at in range(-2, len(words) + 2):
                for rule in RULES + ["none", "twice "]:
                    if (at, rule) in asked:
                        self.assertEqual(moved(p, words, at, rule), asked[at, rule], (words, at, rule))
                    elif len(words) < 20:
                        with self.assertRaises(NoMove, msg=(words, at, rule)):
                            moved(p, words, at, rule)
            seen |= {rule for at, rule in asked}
        self.assertEqual(sorted(seen), RULES)

    def test_the_list_is_the_askers_own(self):
        words = read(11, "back back back id")
        told = moves(11, words)
        told.clear()
        told.append("other")
        self.assertEqual(moves(11, words), [(0, "twice"), (1, "twice"), (2, "turnid")])


class KeptTest(unittest.TestCase):
    def test_wires_and_rows_let_by(self):
        for p, words in drawings():
            rows = let_by(p, words) if p < 11 else None
            for at, rule in moves(p, words):
                told = moved(p, words, at, rule)
                self.assertEqual(wires(told), wires(words), (words, at, rule))
                self.assertEqual(plain(p, told), plain(p, words), (words, at, rule))
                self.assertEqual(read(p, shown(told)), told)
                if rows is not None and len(words) < 16:
                    self.assertEqual(let_by(p, told), rows, (words, at, rule))

    def test_rows_let_by_of_each_rule(self):
        for rule, text, asked in FITTING:
            one, other = read(11, text), read(11, asked)
            for p in (2, 3, 5):
                some = tuple(word % p if isinstance(word, int) else word for word in one)
                told = by_words(p, some).get((0, rule))
                if told is None:
                    continue
                self.assertEqual(moved(p, some, 0, rule), told)
                self.assertEqual(let_by(p, told), let_by(p, some), (p, rule, text))
            self.assertEqual(plain(11, one), plain(11, other), (rule, text))

    def test_in_every_drawing_in_which_the_moved_one_stands(self):
        for rule, text, asked in FITTING:
            for whole, at in around(text):
                words = read(11, whole)
                told = moved(11, words, at, rule)
                self.assertEqual(wires(told), wires(words))
                self.assertEqual(plain(11, told), plain(11, words), (rule, whole))

    def test_many_moves_one_after_the_other(self):
        source = random.Random(15)
        for p in (2, 97):
            for seed in range(8):
                words = great_drawing(seed, p, 80)
                sides, rows = wires(words), plain(p, words)
                for step in range(30):
                    fits = moves(p, words)
                    if not fits:
                        break
                    at, rule = source.choice(fits)
                    words = moved(p, words, at, rule)
                self.assertEqual((wires(words), plain(p, words)), (sides, rows))

    def test_drawings_of_80_words(self):
        for p in (2, 97):
            for seed in range(6):
                words = great_drawing(50 + seed, p, 80)
                self.assertEqual(len(words), 80)
                asked = by_words(p, words)
                self.assertEqual(moves(p, words), sorted(asked))
                for (at, rule), told in asked.items():
                    self.assertEqual(moved(p, words, at, rule), told)
                    self.assertEqual(plain(p, told), plain(p, words))


if __name__ == "__main__":
    unittest.main()
