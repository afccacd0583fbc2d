"""The errors: point 2 and the interface of errors.py."""

import unittest

from alikechances import errors
from alikechances.errors import BadText, BadTickets, ChanceError

NAMES = (
    "BadProgram BadText BadVars BadState BadExpression BadCondition BadPairs BadName BadNames BadFraction BadShare "
    "BadShares BadValues BadTable BadNumber BadCount BadWorld BadTickets BadCoins BadParts BadLeaning BadWay BadGame "
    "BadNews BadNoise NotAlike HasLoops HasChoices Lost NothingToUndo Full TooMany BadCommand"
).split()


class ErrorsTest(unittest.TestCase):
    def test_all_are_there_and_stand_right_under_chance_error(self):
        self.assertEqual(ChanceError.__bases__, (ValueError,))
        self.assertEqual(len(NAMES), 33)
        for name in NAMES:
            with self.subTest(name):
                found = getattr(errors, name)
                self.assertEqual(found.__bases__, (ChanceError,))
                self.assertEqual(found.__module__, "alikechances.errors")

    def test_there_are_no_others(self):
        told = {name for name, thing in vars(errors).items() if isinstance(thing, type)}
        self.assertEqual(told, set(NAMES) | {"ChanceError"})

    def test_fields_are_attributes(self):
        for kind in (BadText, BadTickets):
            self.assertEqual(kind(7).place, 7)
            self.assertEqual(kind(place=-1).place, -1)

    def test_those_without_a_field_are_made_with_a_text(self):
        for name in NAMES:
            if name not in ("BadText", "BadTickets"):
                self.assertEqual(str(getattr(errors, name)("a text")), "a text")

    def test_each_is_caught_as_itself_chance_error_and_value_error_alone(self):
        kinds = [getattr(errors, name) for name in NAMES]
        for kind in kinds:
            error = kind(3) if kind in (BadText, BadTickets) else kind("a text")
            self.assertIsInstance(error, ChanceError)
            self.assertEqual([other for other in kinds if isinstance(error, other)], [kind])


if __name__ == "__main__":
    unittest.main()
