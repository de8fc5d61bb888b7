"""Point [21]: what is told of two texts, and the answers of a text."""

import random
import unittest

from bentwires.alike import compared
from bentwires.errors import BadSides, BadWires, Late, NoDrawing, NoRun, WireError
from bentwires.ever import same_ever, shows
from bentwires.machines import machine, run
from bentwires.plain import plain
from bentwires.settings import bar, setting, stands
from bentwires.whole import answers, told
from bentwires.words import read, shown, wires
from tests.oracle import random_drawings
from tests.ticking import drawing_of, other_states, random_machine, waiting_drawings, with_idle_states

BAD_TEXTS = ("", " ", "id ", " id", "then  id id", "box", "times", "times 5", "times 01", "5", "id id", "then id",
             "Late", "late late", "times late", "late 3")
BAD_WIRES = (("then copy id", 0), ("back then id swap", 1), ("then then id copy then none end", 0),
             ("then late swap", 0), ("then then late copy late", 0), ("then late then swap copy", 2))


class ToldOfDrawingsTest(unittest.TestCase):
    def test_without_late_as_drawings_are_compared(self):
        self.assertEqual(told(7, "then copy add", "times 2"), ("same",))
        kind, row, which = told(7, "then copy add", "times 3")
        self.assertEqual(kind, "parted")
        self.assertEqual(row[1] * 1 % 7, row[0] * (2, 3)[which] % 7)
        self.assertNotEqual(row, (0, 0))
        self.assertEqual(told(7, "empty", "back empty"), ("same",))

    def test_which_one_lets_the_row_by(self):
        kind, row, which = told(5, "then end back end", "id")
        self.assertEqual((kind, which, len(row)), ("parted", 0, 2))
        self.assertNotEqual(row[0], row[1])
        kind, row, which = told(5, "id", "then end back end")
        self.assertEqual((kind, which), ("parted", 1))
        self.assertNotEqual(row[0], row[1])

    def test_without_late_they_need_not_run(self):
        self.assertEqual(told(5, "back copy", "back copy"), ("same",))
        self.assertEqual(told(5, "cup", "then back end copy"), ("same",))
        self.assertEqual(told(5, "back end", "none"), ("parted", (1,), 0))

    def test_as_compared_tells(self):
        for p in (2, 97):
            drawings = random_drawings(p, p, 60, 2, 3)
            for one in drawings:
                for other in drawings[::4]:
                    if wires(one) != wires(other):
                        self.refused(BadSides, p, shown(one), shown(other))
                        continue
                    found = told(p, shown(one), shown(other))
                    self.assertEqual(found == ("same",), plain(p, one) == plain(p, other))
                    self.assertEqual(found[0], compared(p, one, other)[0])
                    if found != ("same",):
                        lets, bars = (one, other) if found[2] == 0 else (other, one)
                        self.assertTrue(stands(p, lets, found[1], setting(p, lets, found[1])))
                        self.assertIsNotNone(bar(p, bars, found[1]))

    def refused(self, kind, p, one, other):
        with self.assertRaises(kind) as caught:
            told(p, one, other)
        self.assertIs(type(caught.exception), kind)
        return caught.exception


class ToldOfMachinesTest(unittest.TestCase):
    def test_with_late_in_both(self):
        self.assertEqual(told(5, "late", "late"), ("same", ((1, 1),)))
        self.assertEqual(told(5, "then late times 2", "then times 2 late"), ("same", ((1, 2),)))
        self.assertEqual(told(5, "late", "then late late"), ("parted", [(1,), (0,)]))
        self.assertEqual(
            told(5, "then add late", "then beside late late add"), ("same", ((1, 0, 1), (0, 1, 4))))

    def test_with_late_in_the_first_alone(self):
        self.assertEqual(told(5, "late", "id"), ("parted", [(1,)]))
        self.assertEqual(told(5, "then late times 0", "times 0"), ("same", ((1,),)))
        self.assertEqual(told(5, "then times 0 late", "times 0"), ("same", ()))
        self.assertEqual(told(5, "then late end", "end"), ("same", ((1,),)))

    def test_with_late_in_the_second_alone(self):
        self.assertEqual(told(5, "times 0", "late"), ("parted", [(1,), (0,)]))
        self.assertEqual(told(5, "times 0", "then late times 0"), ("same", ((1,),)))
        self.assertEqual(told(5, "none", "then none late"), ("same", ()))
        self.assertEqual(told(5, "beside id none", "then copy beside id then late times 0"), ("same", ((1,),)))

    def test_as_same_ever_tells(self):
        source = random.Random(6)
        for p in (2, 3, 97):
            for sides in ((1, 2, 1), (2, 1, 2), (0, 2, 1), (1, 1, 0), (2, 3, 1)):
                one = random_machine(source, p, *sides, nought=0.4)
                for other in (other_states(source, p, one), with_idle_states(source, p, one, 1, 1),
                              random_machine(source, p, *sides, nought=0.4)):
                    found = told(p, shown(drawing_of(p, one)), shown(drawing_of(p, other)))
                    self.assertEqual(found, same_ever(p, one, other))
                    if found[0] == "same":
                        self.assertIs(shows(p, one, other, found[1]), True)
                    else:
                        self.assertNotEqual(run(p, one, found[1])[-1], run(p, other, found[1])[-1])


class RefusedTest(unittest.TestCase):
    def refused(self, kind, call, *asked):
        with self.assertRaises(kind, msg=str(asked)) as caught:
            call(*asked)
        self.assertIs(type(caught.exception), kind)
        return caught.exception

    def test_no_drawing(self):
        for text in BAD_TEXTS:
            self.refused(NoDrawing, told, 5, text, "late")
            self.refused(NoDrawing, told, 5, "late", text)
            self.refused(NoDrawing, told, 5, text, text)
            self.refused(NoDrawing, answers, 5, text, [])

    def test_bad_wires_keeps_its_place(self):
        for text, place in BAD_WIRES:
            for asked in ((5, text, "late"), (5, "late", text)):
                self.assertEqual(self.refused(BadWires, told, *asked).place, place)
            self.assertEqual(self.refused(BadWires, answers, 5, text, [(1,)]).place, place)

    def test_all_of_the_first_ahead_of_the_second(self):
        self.assertEqual(self.refused(BadWires, told, 5, "then copy id", "box").place, 0)
        self.refused(NoDrawing, told, 5, "box", "then copy id")
        self.assertEqual(self.refused(BadWires, told, 5, "then copy id", "back then copy id").place, 0)
        self.assertEqual(self.refused(BadWires, told, 5, "back then copy id", "then copy id").place, 1)

    def test_bad_sides_comes_behind_the_reading(self):
        self.refused(NoDrawing, told, 5, "copy", "times 5")
        self.refused(BadWires, told, 5, "copy", "then copy id")

    def test_bad_sides(self):
        for one, other in (("id", "copy"), ("id", "add"), ("late", "copy"), ("late", "then add late"), ("late", "end"),
                           ("none", "empty"), ("late", "beside late late"), ("copy", "add"), ("back late", "copy"),
                           ("then late copy", "then add late"), ("then late end", "then none late"), ("cup", "late")):
            self.refused(BadSides, told, 5, one, other)
            self.refused(BadSides, told, 5, other, one)

    def test_bad_sides_ahead_of_no_run(self):
        for one, other in (("back late", "copy"), ("back late", "then late copy"), ("back late", "back add"),
                           ("then late back none", "late"), ("beside back late cup", "back copy")):
            self.refused(BadSides, told, 5, one, other)
            self.refused(BadSides, told, 5, other, one)

    def test_no_run(self):
        for one, other in (("back late", "late"), ("back late", "id"), ("back late", "back late"),
                           ("then late then end back end", "late"), ("then back none none", "late"),
                           ("then end back end", "late"), ("back times 0", "late")):
            self.refused(NoRun, told, 5, one, other)
            self.refused(NoRun, told, 5, other, one)

    def test_late_is_never_told(self):
        for p in (2, 5):
            drawings = waiting_drawings(p, p, 60, 2, 3, 3)
            for one in drawings:
                for other in drawings[::6]:
                    try:
                        told(p, shown(one), shown(other))
                    except Late:
                        self.fail("Late is no refusal of told")
                    except WireError as refusal:
                        self.assertIs(type(refusal), BadSides if wires(one) != wires(other) else NoRun)


class AnswersTest(unittest.TestCase):
    def test_read_and_run(self):
        self.assertEqual(answers(7, "late", [(1,), (2,), (3,)]), [(0,), (1,), (2,)])
        self.assertEqual(answers(7, "then copy add", [(1,), (4,)]), [(2,), (1,)])
        total = "then beside id cup then beside then add then copy beside id late id beside id back cup"
        self.assertEqual(answers(7, total, [(1,), (2,), (0,), (6,)]), [(1,), (3,), (3,), (2,)])

    def test_without_wires(self):
        self.assertEqual(answers(7, "empty", [(), ()]), [(), ()])
        self.assertEqual(answers(7, "then none late", [(), ()]), [(0,), (0,)])
        self.assertEqual(answers(7, "then late end", [(3,), (4,)]), [(), ()])

    def test_no_ticks_and_sixty(self):
        self.assertEqual(answers(7, "late", []), [])
        self.assertEqual(answers(7, "late", ()), [])
        asked = [(n % 7,) for n in range(60)]
        self.assertEqual(answers(7, "then late late", asked), [(0,), (0,)] + asked[:58])
        self.assertEqual(answers(7, "then late late", tuple(asked)), [(0,), (0,)] + asked[:58])

    def test_no_run(self):
        for text in ("back late", "cup", "back copy", "back end", "then late back none", "then none back late"):
            for asked in ([], [()], [(1,)]):
                with self.assertRaises(NoRun) as caught:
                    answers(5, text, asked)
                self.assertIs(type(caught.exception), NoRun)

    def test_as_the_machine_runs(self):
        source = random.Random(4)
        for p in (2, 3, 97):
            for sides in ((1, 2, 1), (2, 3, 2), (0, 2, 1), (2, 1, 0), (3, 0, 2)):
                some = random_machine(source, p, *sides)
                asked = [tuple(source.randrange(p) for _ in range(some[0])) for _ in range(20)]
                found = answers(p, shown(drawing_of(p, some)), asked)
                self.assertEqual(found, run(p, some, asked))
                self.assertEqual((type(found), {type(row) for row in found}), (list, {tuple}))

    def test_the_same_answers_where_told_says_so(self):
        one, other = "then add late", "then beside late late add"
        asked = [(n % 5, n * n % 5) for n in range(60)]
        self.assertEqual(told(5, one, other)[0], "same")
        self.assertEqual(answers(5, one, asked), answers(5, other, asked))
        kind, parting = told(5, one, "then beside late then late times 2 add")
        self.assertEqual((kind, parting), ("parted", [(0, 1), (0, 0)]))
        self.assertEqual(machine(5, read(5, one))[0], 2)
        self.assertNotEqual(answers(5, one, parting), answers(5, "then beside late then late times 2 add", parting))


if __name__ == "__main__":
    unittest.main()
