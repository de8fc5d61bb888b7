"""The refusals: the interface's part bentwires/errors.py."""

import unittest

from bentwires import errors
from bentwires.errors import BadSides, BadWires, Late, NoDrawing, NoMove, NoRun, WireError

OF_A_TEXT = [NoDrawing, Late, BadSides, NoMove, NoRun]


class ErrorsTest(unittest.TestCase):
    def test_each_refusal_is_a_wire_error_and_a_value_error(self):
        self.assertTrue(issubclass(WireError, ValueError))
        for kind in OF_A_TEXT + [BadWires]:
            self.assertTrue(issubclass(kind, WireError), kind)

    def test_none_stands_under_another(self):
        kinds = OF_A_TEXT + [BadWires]
        for one in kinds:
            self.assertEqual([other for other in kinds if issubclass(one, other)], [one])

    def test_there_are_no_other_classes(self):
        there = {name for name, value in vars(errors).items() if isinstance(value, type)}
        self.assertEqual(there, {"WireError", "BadWires"} | {kind.__name__ for kind in OF_A_TEXT})

    def test_made_of_a_text(self):
        for kind in OF_A_TEXT + [WireError]:
            with self.assertRaises(kind) as caught:
                raise kind("why it is refused")
            self.assertIn("why it is refused", str(caught.exception))

    def test_bad_wires_is_made_of_its_place_and_keeps_it(self):
        for place in (0, 1, 79):
            self.assertEqual(BadWires(place).place, place)
            self.assertIs(type(BadWires(place).place), int)
        with self.assertRaises(WireError) as caught:
            raise BadWires(7)
        self.assertEqual(caught.exception.place, 7)


if __name__ == "__main__":
    unittest.main()
