"""Values carried behind (13)."""

import unittest

from alikechances.ahead import ahead
from alikechances.errors import BadProgram, BadShares, BadValues, HasChoices
from alikechances.programs import states_of
from alikechances.tables import table
from alikechances.values import behind, let_by, never, wanted
from tests import reference
from tests.helpers import (
    CHOICE,
    COIN,
    LOOP,
    OTHERS,
    SKIP,
    TRUE,
    X,
    X_IS_0,
    as_none,
    as_truth,
    changed,
    nested,
    other_sequence,
    program,
    seq,
)

PART = program("while (x below 2) do (if (x is 0) then (draw x from 0 weight 1, 1 weight 1, 2 weight 1, 3 weight 2; "
               "see (x below 3)) else (skip))", "x 4")
VALUES = ((7, 1), (-3, 2), (-10, 4), (0, 5))


class BehindTest(unittest.TestCase):
    def test_values_of_any_sign(self):
        self.assertEqual(behind((X, SKIP), ((-2, 4), (6, 3))), ((-1, 2), (2, 1)))
        self.assertEqual(behind((X, COIN), ((-2, 4), (6, 3))), ((3, 4), (3, 4)))
        self.assertEqual(behind(program=(X, COIN), values=((-1, 1), (1, 1))), ((0, 1), (0, 1)))
        self.assertEqual(behind(PART, VALUES), ((-5, 8), (0, 1), (-5, 2), (0, 1)))

    def test_what_is_refused_or_never_ends_counts_nothing(self):
        self.assertEqual(behind((X, ("see", X_IS_0)), ((5, 1), (5, 1))), ((5, 1), (0, 1)))
        self.assertEqual(behind((X, ("while", X_IS_0, SKIP)), ((5, 1), (5, 1))), ((0, 1), (5, 1)))

    def test_let_by_and_never(self):
        self.assertEqual(let_by(PART), ((1, 4), (0, 1), (1, 1), (1, 1)))
        self.assertEqual(never(PART), ((1, 4), (1, 1), (0, 1), (0, 1)))
        self.assertEqual(let_by(program=(X, LOOP)), ((1, 1), (1, 1)))
        self.assertEqual(never(program=(X, LOOP)), ((0, 1), (0, 1)))
        self.assertEqual(let_by((X, ("see", X_IS_0))), ((1, 1), (0, 1)))

    def test_both_directions_tell_the_same(self):
        for seed in range(80):
            maker = reference.Maker(seed, most=12)
            made = maker.program()
            states = states_of(made[0])
            values = tuple((maker.random.randint(-9, 9), maker.random.randint(1, 9)) for _ in states)
            shares = [(state, (maker.random.randint(1, 9), maker.random.randint(1, 9))) for state in states]
            found, refused, endless = ahead(made, shares)
            worth = dict(zip(states, values))
            front = sum(reference.Fraction(*weight) * reference.Fraction(*worth[state]) for state, weight in found)
            self.assertEqual(self.summed(shares, behind(made, values)), front)
            self.assertEqual(reference.pair(self.summed(shares, never(made))), endless)
            ended = sum(reference.Fraction(*weight) for _, weight in found)
            self.assertEqual(self.summed(shares, let_by(made)), ended)
            self.assertEqual(wanted(made, values, shares), reference.pair(front / ended) if ended else None)

    def summed(self, shares, values):
        return sum(reference.Fraction(*share) * reference.Fraction(*value) for (_, share), value in zip(shares, values))

    def test_values_ahead_are_the_table_times_the_values(self):
        for seed in range(40):
            maker = reference.Maker(seed, most=12)
            made = maker.program()
            values = tuple((maker.random.randint(-99, 99), maker.random.randint(1, 9)) for _ in states_of(made[0]))
            self.assertEqual(behind(made, values), tuple(
                reference.pair(sum(reference.Fraction(*weight) * reference.Fraction(*value)
                                   for weight, value in zip(row, values)))
                for row, _, _ in table(made)
            ))


class WantedTest(unittest.TestCase):
    def test_over_what_ends(self):
        self.assertEqual(wanted((X, COIN), ((2, 4), (-6, 3)), [((0,), (5, 1))]), (-3, 4))
        self.assertEqual(wanted(PART, VALUES, [((0,), (4, 2)), ((3,), (1, 2))]), (-5, 4))
        self.assertEqual(wanted(program=PART, values=VALUES, shares=[((0,), (1, 1))]), (-5, 2))
        self.assertEqual(wanted((X, ("while", X_IS_0, SKIP)), ((5, 1), (7, 1)), [((0,), (1, 1)), ((1,), (1, 9))]), (7, 1))

    def test_nothing_ends(self):
        self.assertIsNone(wanted((X, ("see", X_IS_0)), ((1, 1), (1, 1)), [((1,), (1, 1))]))
        self.assertIsNone(wanted((X, ("while", TRUE, SKIP)), ((1, 1), (1, 1)), [((1,), (1, 1))]))
        self.assertEqual(wanted((X, COIN), ((0, 1), (0, 1)), [((1,), (1, 1))]), (0, 1))


class ErrorsTest(unittest.TestCase):
    shares = [((0,), (1, 1))]

    def test_bad_values(self):
        good = ((1, 1), (0, 1))
        for values in OTHERS + ((), good[:1], good + good[:1], list(good), ((1, 1), [0, 1]), ((1, 1), (1, 0)),
                                ((1, 1), (1, -1)), ((True, 1), (1, 1)), ((1, True), (1, 1)), (1, 1), ((1, 1), None),
                                ((1, 1), (1, 1, 1)), nested(99)):
            with self.assertRaises(BadValues):
                behind((X, COIN), values)
            with self.assertRaises(BadValues):
                wanted((X, COIN), values, self.shares)
        for change in (other_sequence, as_truth, as_none):
            for values in changed(good, change):
                with self.assertRaises(BadValues):
                    behind((X, COIN), values)

    def test_bad_shares(self):
        for shares in ([], [((0,), (0, 1))], (((0,), (1, 1)),), [((2,), (1, 1))], [((0, 0), (1, 1))], None):
            with self.assertRaises(BadShares):
                wanted((X, COIN), ((1, 1), (1, 1)), shares)

    def test_choices_and_no_programs(self):
        values = ((1, 1), (1, 1))
        for made, error in (((X, CHOICE), HasChoices), ((X, ("while", X_IS_0, CHOICE)), HasChoices),
                            ((X, seq(SKIP)), BadProgram), (nested(99), BadProgram), (None, BadProgram)):
            for call in (lambda: behind(made, values), lambda: let_by(made), lambda: never(made),
                         lambda: wanted(made, values, self.shares)):
                with self.assertRaises(error):
                    call()


if __name__ == "__main__":
    unittest.main()
