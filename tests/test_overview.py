"""What holds of all functions (2): the order of errors, names of parameters, nothing changed, equal results."""

import itertools
import unittest

from alikechances.ahead import ahead
from alikechances.errors import (
    BadCount,
    BadNumber,
    BadShare,
    BadShares,
    BadState,
    BadValues,
    BadWorld,
    ChanceError,
)
from alikechances.programs import is_program
from alikechances.tables import is_table, mixed
from alikechances.values import behind
from alikechances.worlds import run_world, unrolled, world_of, worlds
from tests import calls, calls_choices, calls_joins, calls_news, calls_same
from tests.calls import COINS, STAY
from tests.helpers import ONE, SKIP, X, frozen
from tests.test_interface import INTERFACE

ORDERS = calls.ORDERS + calls_same.ORDERS + calls_joins.ORDERS + calls_choices.ORDERS + calls_news.ORDERS


def lists_in(thing):
    """All lists in a result, however deep."""
    found = [thing] if isinstance(thing, list) else []
    if isinstance(thing, (list, tuple)):
        for part in thing:
            found.extend(lists_in(part))
    return found


class OverviewTest(unittest.TestCase):
    def test_each_function_of_the_interface_is_called_here(self):
        called = {(function.__module__, function.__name__) for function, _, _ in ORDERS}
        told = {(f"alikechances.{file}", name) for file, names in INTERFACE.items() for name in names}
        self.assertEqual(called, told)

    def raises(self, error, function, arguments):
        with self.assertRaises(ChanceError) as caught:
            function(**arguments)
        self.assertIs(type(caught.exception), error, (function.__name__, arguments))

    def test_each_error_alone(self):
        for function, good, faults in ORDERS:
            for parameter, worth, error in faults:
                self.raises(error, function, {**good, parameter: worth})

    def test_of_two_the_one_that_is_told_first(self):
        tried = 0
        for function, good, faults in ORDERS:
            for (parameter, worth, error), (other, bad, _) in itertools.combinations(faults, 2):
                if parameter != other:
                    tried += 1
                    self.raises(error, function, {**good, parameter: worth, other: bad})
        self.assertGreater(tried, 100)

    def test_by_position_and_by_names(self):
        for function, good, _ in ORDERS:
            self.assertEqual(function(*good.values()), function(**good), function.__name__)
            turned = dict(reversed(list(good.items())))
            self.assertEqual(function(**turned), function(**good), function.__name__)

    def test_nothing_is_changed_and_equal_calls_return_equal_results(self):
        for function, good, _ in ORDERS:
            before = frozen(good)
            first = function(**good)
            told = frozen(first)
            for found in lists_in(first):
                found.append("changed")
            self.assertEqual(frozen(good), before, function.__name__)
            self.assertEqual(frozen(function(**good)), told, function.__name__)

    def test_no_list_stands_in_two_places(self):
        for function, good, _ in ORDERS:
            found = lists_in(function(**good)) + lists_in(list(good.values()))
            self.assertEqual(len({id(part) for part in found}), len(found))

    def test_truths_stand_for_no_integer(self):
        self.assertFalse(is_program(((("x", True),), SKIP)))
        self.assertFalse(is_program((X, ("set", "x", ("num", True)))))
        self.assertFalse(is_program((X, ("draw", "x", ((ONE, True),)))))
        self.raises(BadState, worlds, {"program": COINS, "state": (True,)})
        self.raises(BadNumber, world_of, {"program": COINS, "state": (0,), "number": True})
        self.raises(BadWorld, run_world, {"program": COINS, "state": (0,), "thing": (False,)})
        self.raises(BadCount, unrolled, {"program": COINS, "count": False})
        self.raises(BadShare, mixed, {"variables": X, "table": STAY, "other": STAY, "share": (True, 1)})
        self.raises(BadShares, ahead, {"program": COINS, "shares": [((0,), (1, True))]})
        self.raises(BadShares, ahead, {"program": COINS, "shares": [((False,), (1, 1))]})
        self.raises(BadValues, behind, {"program": COINS, "values": ((True, 1), (0, 1))})
        self.assertFalse(is_table(X, ((((True, 1), (0, 1)), (0, 1), (0, 1)), STAY[1])))

    def test_results_are_of_integers_and_no_truths(self):
        def numbers(thing):
            if isinstance(thing, (list, tuple)):
                return [number for part in thing for number in numbers(part)]
            return [thing] if isinstance(thing, int) else []

        for function, good, _ in ORDERS:
            found = function(**good)
            if not isinstance(found, bool):
                self.assertFalse([number for number in numbers(found) if isinstance(number, bool)], function.__name__)


if __name__ == "__main__":
    unittest.main()
