"""Costs of programs, and what bettered bodies gain (26)."""

import unittest
from fractions import Fraction

from alikechances.costs import cost, costs, loop_gain
from alikechances.errors import BadCondition, BadProgram, BadState, HasChoices
from alikechances.passes import bettered
from alikechances.programs import states_of
from tests.helpers import CHOICE, COIN, LOOP, SKIP, TRUE, X, X_IS_0, XY, ifs, program, seq, whiles
from tests.reference import Maker, pair
from tests.reference_choices import cost_by

THERE = ("is", ("var", "y"), ("num", 0))


def less(one, other):
    """The one fraction less the other one, None where either is."""
    return None if one is None or other is None else pair(Fraction(*one) - Fraction(*other))


class CostTest(unittest.TestCase):
    def costs(self, text, wanted, variables="x 2"):
        self.assertEqual(costs(program(text, variables)), tuple(wanted))

    def test_acts(self):
        self.costs("skip", [(0, 1)] * 2)
        self.costs("x := 1", [(1, 1)] * 2)
        self.costs("draw x from 0 weight 1, 1 weight 2", [(1, 1)] * 2)
        self.costs("skip; x := 1; skip; draw x from 0 weight 5; skip", [(2, 1)] * 2)

    def test_sees_that_refuse(self):
        self.costs("see (x is 0)", [(1, 1)] * 2)
        self.costs("see (x is 0); x := 1; x := 0", [(3, 1), (1, 1)])
        self.costs("draw x from 0 weight 1, 1 weight 2; see (x is 0); x := 1", [(7, 3)] * 2)
        self.costs("see not true; while true do (skip)", [(1, 1)] * 2)

    def test_ifs(self):
        self.costs("if (x is 0) then (x := 1; x := 0) else (skip)", [(3, 1), (1, 1)])
        self.costs("if (x is 0) then (if true then (skip) else (x := 1)) else (see true)", [(2, 1), (2, 1)])

    def test_whiles_with_the_last_asking(self):
        self.costs("while (x is 0) do (x := 1)", [(3, 1), (1, 1)])
        self.costs("while (x is 0) do (draw x from 0 weight 1, 1 weight 1)", [(5, 1), (1, 1)])
        self.costs("while (x is 0) do (draw x from 0 weight 1, 1 weight 2; see (x is 0))", [(9, 2), (1, 1)])
        self.costs("while (x is 0) do (skip; see not true)", [(2, 1), (1, 1)])
        self.costs("while (x below 2) do (draw x from x weight 1, (x + 1) weight 3); x := 0",
                   [(22, 3), (14, 3), (2, 1)], "x 3")

    def test_whiles_within_whiles(self):
        text = "while (x is 0) do (while (y is 0) do (draw y from 0 weight 1, 1 weight 1); draw x from 0 weight 1, 1 weight 1; y := x)"
        before = program(text)
        self.assertEqual(costs(before), tuple(pair(cost_by(before, {}, state)) for state in states_of(XY)))
        deep = (X, whiles(11, COIN))
        self.assertEqual(costs(deep), tuple(pair(cost_by(deep, {}, state)) for state in states_of(X)))

    def test_none_where_it_may_go_on_for_ever(self):
        self.costs("while (x is 0) do (skip)", [None, (1, 1)])
        self.costs("x := x; while true do (x := 1)", [None] * 2)
        self.costs("while (x is 0) do (draw x from 1 weight 1, 2 weight 1); while (x is 2) do (skip)",
                   [None, (2, 1), None], "x 3")
        self.costs("while (x is 0) do (draw x from 0 weight 1, 1 weight 1; while (x is 1) do (skip))", [None, (1, 1)])
        self.costs("if (x is 0) then (while true do (skip)) else (skip)", [None, (1, 1)])

    def test_one_state(self):
        before = program("while (x is 0) do (x := 1)", "x 3")
        self.assertEqual([cost(before, (value,)) for value in range(3)], [(3, 1), (1, 1), (1, 1)])
        self.assertIsNone(cost(program("while true do (skip)", "x 2"), (1,)))

    def test_made_up_programs(self):
        endless = 0
        for seed in range(120):
            before = Maker(seed, ("skip", "set", "draw", "draw", "see", "if", "while", "seq"), most=6).program()
            wanted = []
            for state in states_of(before[0]):
                found = cost_by(before, {}, state)
                wanted.append(None if found is None else pair(found))
                self.assertEqual(cost(before, state), wanted[-1])
            self.assertEqual(costs(before), tuple(wanted))
            endless += None in wanted
        self.assertGreater(endless, 10)

    def test_wrong_things(self):
        for state in (None, [0], (True,), (0.0,), 0):
            with self.assertRaises(BadState):
                cost((X, CHOICE), state)
        for state in ((), (2,), (-1,), (0, 0)):
            with self.assertRaises(HasChoices):
                cost((X, CHOICE), state)
            with self.assertRaises(BadState):
                cost((X, COIN), state)
        for wrong in (None, (X, seq(SKIP, COIN), 1), (X, seq(SKIP)), [X, SKIP]):
            with self.assertRaises(BadProgram):
                cost(wrong, (0,))
            with self.assertRaises(BadProgram):
                costs(wrong)
        with self.assertRaises(HasChoices):
            costs((X, seq(LOOP, ("if", TRUE, CHOICE, SKIP))))


class LoopGainTest(unittest.TestCase):
    def test_a_body_that_is_bettered(self):
        body = program("draw x from 0 weight 1, 1 weight 1; x := x; see true", "x 2")
        self.assertEqual(loop_gain(X_IS_0, body), ((4, 1), (0, 1)))
        body = program("x := 1; x := (x + 1); x := 1", "x 3")
        self.assertEqual(loop_gain(X_IS_0, body), ((2, 1), (0, 1), (0, 1)))
        self.assertEqual(loop_gain(X_IS_0, (X, COIN)), ((0, 1), (0, 1)))

    def test_none_at_its_places(self):
        body = program("if (x is 0) then (x := 1; x := x) else (x := x)", "x 3")
        self.assertEqual(loop_gain(("below", ("var", "x"), ("num", 2)), body), (None, None, (0, 1)))
        self.assertEqual(loop_gain(TRUE, program("see (x is 0); see true; x := 1", "x 2")), ((1, 1), (0, 1)))
        self.assertEqual(loop_gain(X_IS_0, program("while true do (skip)", "x 2")), (None, (0, 1)))

    def test_bodies_at_the_bounds(self):
        body = (X, ("seq", (COIN,) * 60))
        self.assertEqual(loop_gain(X_IS_0, body), ((118, 1), (0, 1)))
        self.assertEqual(loop_gain(X_IS_0, (X, ifs(11, COIN))), ((22, 1), (0, 1)))

    def test_made_up_bodies(self):
        gained = 0
        for seed in range(60):
            made = Maker(seed, ("skip", "set", "draw", "see", "if", "seq"), most=6)
            body = made.program(3)
            condition = made.condition([name for name, _ in body[0]], 2)
            old, new = [costs((body[0], ("while", condition, part[1]))) for part in (body, bettered(body)[0])]
            wanted = tuple(less(before, after) for before, after in zip(old, new))
            self.assertEqual(loop_gain(condition, body), wanted)
            gained += any(found and found[0] for found in wanted)
        self.assertGreater(gained, 10)

    def test_wrong_things_in_their_order(self):
        for condition, body, error in (
            (None, None, BadCondition), (X_IS_0, None, BadProgram), (THERE, (X, CHOICE), HasChoices),
            (THERE, (X, COIN), BadCondition), (("var", "x"), (X, CHOICE), BadCondition),
        ):
            with self.assertRaises(error):
                loop_gain(condition, body)


if __name__ == "__main__":
    unittest.main()
