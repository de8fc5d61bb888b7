"""Words: points [6] and [7]."""

import itertools
import unittest

from bentwires.errors import BadWires, NoDrawing
from bentwires.words import read, shown, wires
from tests.oracle import PRIMES, SIDES, random_drawings

# What a text tells, and how many wires that has.
DRAWINGS = [
    ("id", ("id",), (1, 1)),
    ("swap", ("swap",), (2, 2)),
    ("copy", ("copy",), (1, 2)),
    ("end", ("end",), (1, 0)),
    ("add", ("add",), (2, 1)),
    ("none", ("none",), (0, 1)),
    ("times 0", ("times", 0), (1, 1)),
    ("times 10", ("times", 10), (1, 1)),
    ("cup", ("cup",), (0, 2)),
    ("empty", ("empty",), (0, 0)),
    ("late", ("late",), (1, 1)),
    ("back copy", ("back", "copy"), (2, 1)),
    ("back back end", ("back", "back", "end"), (1, 0)),
    ("back late", ("back", "late"), (1, 1)),
    ("back times 7", ("back", "times", 7), (1, 1)),
    ("beside copy add", ("beside", "copy", "add"), (3, 3)),
    ("beside none end", ("beside", "none", "end"), (1, 1)),
    ("beside times 3 cup", ("beside", "times", 3, "cup"), (1, 3)),
    ("then copy add", ("then", "copy", "add"), (1, 1)),
    ("then end none", ("then", "end", "none"), (1, 1)),
    ("then cup back cup", ("then", "cup", "back", "cup"), (0, 0)),
    ("then times 4 times 5", ("then", "times", 4, "times", 5), (1, 1)),
    ("then beside cup id beside id back cup",
     ("then", "beside", "cup", "id", "beside", "id", "back", "cup"), (1, 1)),
    ("back then add copy", ("back", "then", "add", "copy"), (2, 2)),
    ("back beside none then copy beside copy id",
     ("back", "beside", "none", "then", "copy", "beside", "copy", "id"), (4, 1)),
]

NO_DRAWINGS = [
    "", " ", "  ",
    " id", "id ", "then  id id", "then id  id", "times  3", "times 3 ",
    "3", "0", "id 3", "3 id", "back 3", "beside 3 id", "beside id 3", "then id 2", "late 1", "times 3 4",
    "times", "times id", "times times 3", "then times id", "then times 3 times", "then id times",
    "times 11", "times 12", "times 100", "times 111111111111111111111111",
    "times 00", "times 01", "times 007", "times -1", "times +1", "times 1.0", "times 1_0", "times 0x1", "times a",
    "back", "beside", "then", "beside id", "then id", "back back", "then then id id", "beside back id",
    "id id", "empty empty", "back id id", "beside id id id", "then id id id", "times 3 id",
    "Id", "ID", "ids", "i", "copy,", "back(id)", "zip", "true", "True", "None", "id\tid", "id\n", "id~",
]

BAD_WIRES = [
    ("then copy end", 0),
    ("then id swap", 0),
    ("then empty id", 0),
    ("then times 3 add", 0),
    ("back then copy end", 1),
    ("back back then late none", 2),
    ("beside id then none copy", None),
    ("beside id then none add", 2),
    ("beside times 2 then none add", 3),
    # Of several the one whose drawing ends first.
    ("beside then id swap then copy end", 1),
    ("beside then id id then copy end", 4),
    ("then then copy end end", 1),
    ("then then copy end swap", 1),
    ("then then id id swap", 0),
    ("then beside then id end then end end end", 5),
    ("beside then then id add id then end id", 2),
    ("beside beside then id swap id then copy end", 2),
    # Of those that end together the innermost.
    ("then id then copy end", 2),
    ("then swap then copy end", 2),
    ("then swap then id then end id", 4),
    ("then swap then id then id id", 0),
    ("then swap then swap then copy add", 2),
    ("then add back then swap end", 3),
    ("then none beside id then end id", 4),
    ("then swap beside then end id then copy end", 3),
]


def words_of(text):
    return tuple(int(piece) if piece.isdigit() else piece for piece in text.split())


def sides_at(words, at):
    """The wires, the end and all unmet `then` (end, how far in, place) of the drawing at a word."""
    word = words[at]
    if word == "times":
        return (1, 1), at + 2, []
    if word == "back":
        (left, right), end, unmet = sides_at(words, at + 1)
        return (right, left), end, unmet
    if word not in ("beside", "then"):
        return SIDES[word], at + 1, []
    one, middle, first = sides_at(words, at + 1)
    other, end, second = sides_at(words, middle)
    if word == "beside":
        return (one[0] + other[0], one[1] + other[1]), end, first + second
    own = [(end, -at, at)] if one[1] != other[0] else []
    return (one[0], other[1]), end, first + second + own


class ReadTest(unittest.TestCase):
    def test_each_word(self):
        for text, words, sides in DRAWINGS:
            told = read(11, text)
            self.assertEqual(told, words)
            self.assertIs(type(told), tuple)
            self.assertEqual([type(word) for word in told], [type(word) for word in words])

    def test_shown_and_read_again(self):
        for text, words, sides in DRAWINGS:
            self.assertEqual(shown(words), text)
            self.assertEqual(shown(read(11, text)), text)
            self.assertEqual(read(11, shown(words)), words)

    def test_each_number_of_each_prime(self):
        for p in PRIMES:
            for number in range(p):
                self.assertEqual(read(p, f"times {number}"), ("times", number))
            for number in (p, p + 1, 10 * p, 100):
                with self.assertRaises(NoDrawing):
                    read(p, f"times {number}")

    def test_no_drawings(self):
        for text in NO_DRAWINGS:
            with self.assertRaises(NoDrawing, msg=repr(text)):
                read(11, text)

    def test_no_words_of_other_signs(self):
        for sign in map(chr, range(32, 127)):
            texts = [sign, f"id{sign}", f"{sign}id", f"then id {sign}", f"id{sign}id", f"times 1{sign}0"]
            if not sign.isdigit():
                texts += [f"times {sign}", f"times 1{sign}", f"times {sign}1"]
            for text in texts:
                with self.assertRaises(NoDrawing, msg=repr(text)):
                    read(11, text)

    def test_every_short_row_of_words(self):
        some = ["id", "end", "add", "times", "2", "back", "then"]
        good = 0
        for length in (1, 2, 3, 4, 5):
            for pieces in itertools.product(some, repeat=length):
                good += self.check_row_of_words(" ".join(pieces))
        self.assertGreater(good, 50)

    def check_row_of_words(self, text):
        words = words_of(text)
        try:
            sides, end, unmet = sides_at(words, 0)
            fits = end == len(words) and all(
                isinstance(word, int) == (k > 0 and words[k - 1] == "times") for k, word in enumerate(words))
        except (KeyError, IndexError):
            fits = False
        if not fits:
            with self.assertRaises(NoDrawing, msg=text):
                read(3, text)
        elif unmet:
            with self.assertRaises(BadWires, msg=text) as caught:
                read(3, text)
            self.assertEqual(caught.exception.place, min(unmet)[2], text)
        else:
            self.assertEqual(read(3, text), words)
            self.assertEqual(wires(words), sides)
            return 1
        return 0


class BadWiresTest(unittest.TestCase):
    def test_the_place(self):
        for text, place in BAD_WIRES:
            if place is None:
                self.assertEqual(read(11, text), words_of(text))
                continue
            with self.assertRaises(BadWires, msg=text) as caught:
                read(11, text)
            self.assertEqual(caught.exception.place, place, text)
            self.assertIs(type(caught.exception.place), int)

    def test_no_drawing_comes_first(self):
        for text, place in BAD_WIRES:
            if place is None:
                continue
            for other in (f"{text} id", f"{text} ", f" {text}", f"beside {text}", f"then {text}", f"{text} 3",
                          f"beside {text} times 11", f"beside {text} times 03", f"beside times {text}",
                          f"beside {text} ID", f"beside id  {text}"):
                with self.assertRaises(NoDrawing, msg=repr(other)):
                    read(11, other)

    def test_by_counting_all_that_do_not_meet(self):
        boxes = ["id", "copy", "end", "none"]
        for one, two, three, four in itertools.product(boxes, repeat=4):
            for text in (f"then then {one} {two} then {three} {four}", f"then {one} then {two} then {three} {four}",
                         f"then then then {one} {two} {three} {four}", f"beside then {one} {two} then {three} {four}",
                         f"then {one} back then then {two} {three} {four}"):
                sides, end, unmet = sides_at(words_of(text), 0)
                if not unmet:
                    self.assertEqual(wires(read(2, text)), sides)
                    continue
                with self.assertRaises(BadWires, msg=text) as caught:
                    read(2, text)
                self.assertEqual(caught.exception.place, min(unmet)[2], text)


class WiresTest(unittest.TestCase):
    def test_each_box_and_each_joint(self):
        for text, words, sides in DRAWINGS:
            self.assertEqual(wires(words), sides, text)
            self.assertIs(type(wires(words)), tuple)

    def test_each_box_turned_about(self):
        for word, (left, right) in SIDES.items():
            words = (word, 1) if word == "times" else (word,)
            self.assertEqual(wires(words), (left, right))
            self.assertEqual(wires(("back",) + words), (right, left))

    def test_two_boxes(self):
        for one, other in itertools.product([word for word in SIDES if word != "times"], repeat=2):
            a, b = SIDES[one]
            c, d = SIDES[other]
            self.assertEqual(wires(("beside", one, other)), (a + c, b + d))
            if b == c:
                self.assertEqual(wires(("then", one, other)), (a, d))
                self.assertEqual(wires(("back", "then", one, other)), (d, a))

    def test_many(self):
        for words in random_drawings(5, 7, 300, 4, 4):
            sides, end, unmet = sides_at(words, 0)
            self.assertEqual(unmet, [])
            self.assertEqual(wires(words), sides)
            self.assertEqual(read(7, shown(words)), words)


if __name__ == "__main__":
    unittest.main()
