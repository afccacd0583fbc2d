"""Shares carried ahead (12)."""

import unittest

from alikechances.ahead import ahead, chance, chance_never, chances
from alikechances.errors import BadCondition, BadProgram, BadShares, HasChoices
from alikechances.programs import states_of, states_where
from alikechances.tables import table
from tests import reference
from tests.helpers import (
    CHOICE,
    COIN,
    LOOP,
    ONE,
    OTHERS,
    SKIP,
    TRUE,
    X,
    X_IS_0,
    XY,
    as_truth,
    changed,
    frozen,
    nested,
    nots,
    other_sequence,
    program,
    seq,
)

PART = program("while (x below 2) do (if (x is 0) then (draw x from 0 weight 1, 1 weight 1, 2 weight 1, 3 weight 2; "
               "see (x below 3)) else (skip))", "x 4")
SHARES = [((0,), (6, 4)), ((2,), (1, 3)), ((3,), (10, 5))]
NONE = program("see not true", "x 2")


def all_calls(made, shares):
    return (lambda: ahead(made, shares), lambda: chance(made, shares, TRUE), lambda: chance_never(made, shares),
            lambda: chances(made, shares))


class AheadTest(unittest.TestCase):
    def test_one_state(self):
        self.assertEqual(ahead((X, COIN), [((0,), (1, 1))]), ([((0,), (1, 2)), ((1,), (1, 2))], (0, 1), (0, 1)))
        self.assertEqual(ahead(program=(X, COIN), shares=[((1,), (14, 4))]),
                         ([((0,), (7, 4)), ((1,), (7, 4))], (0, 1), (0, 1)))
        self.assertEqual(ahead((X, ("see", X_IS_0)), [((1,), (2, 6))]), ([], (1, 3), (0, 1)))
        self.assertEqual(ahead((X, ("while", TRUE, SKIP)), [((1,), (2, 6))]), ([], (0, 1), (1, 3)))

    def test_several_states_of_any_sum(self):
        self.assertEqual(ahead(PART, SHARES), ([((2,), (17, 24)), ((3,), (2, 1))], (3, 4), (3, 8)))

    def test_the_sums_are_kept(self):
        for seed in range(60):
            maker = reference.Maker(seed, most=12)
            made = maker.program()
            shares = [(state, (maker.random.randint(1, 9), maker.random.randint(1, 9))) for state in states_of(made[0])
                      if maker.random.random() < 0.6] or [(states_of(made[0])[0], (3, 9))]
            found, refused, endless = ahead(made, shares)
            weights = [weight for _, weight in found] + [refused, endless]
            self.assertEqual(sum(reference.Fraction(*weight) for weight in weights),
                             sum(reference.Fraction(*share) for _, share in shares))
            self.assertEqual(weights, [reference.pair(reference.Fraction(*weight)) for weight in weights])
            self.check(made, shares, found, refused, endless)

    def check(self, made, shares, found, refused, endless):
        """The tuple is that of the shares times the rows of the table."""
        states = states_of(made[0])
        told = dict(found)
        lines = [(reference.Fraction(*share), table(made)[states.index(state)]) for state, share in shares]
        for at, state in enumerate(states):
            whole = sum(share * reference.Fraction(*line[0][at]) for share, line in lines)
            self.assertEqual(told.get(state, (0, 1)), reference.pair(whole))
        self.assertEqual(refused, reference.pair(sum(share * reference.Fraction(*line[1]) for share, line in lines)))
        self.assertEqual(endless, reference.pair(sum(share * reference.Fraction(*line[2]) for share, line in lines)))
        self.assertEqual([state for state, _ in found], sorted(told))
        self.assertTrue(all(weight[0] > 0 for _, weight in found))


class ChanceTest(unittest.TestCase):
    def test_over_what_is_let_by(self):
        self.assertEqual(chance(PART, SHARES, ("is", ("var", "x"), ("num", 2))), (17, 74))
        self.assertEqual(chance(program=PART, shares=SHARES, condition=TRUE), (65, 74))
        self.assertEqual(chance(PART, SHARES, X_IS_0), (0, 1))
        self.assertEqual(chance_never(PART, SHARES), (9, 74))
        self.assertEqual(chance_never(program=PART, shares=SHARES), (9, 74))
        self.assertEqual(chances(PART, SHARES), [((2,), (17, 74)), ((3,), (24, 37))])
        self.assertEqual(chances(program=PART, shares=SHARES), [((2,), (17, 74)), ((3,), (24, 37))])

    def test_shares_not_in_lowest_terms_and_multiples(self):
        for shares in ([((0,), (1, 1)), ((1,), (2, 1))], [((0,), (7, 14)), ((1,), (5, 5))], [((0,), (30, 3)), ((1,), (20, 1))]):
            self.assertEqual(chance((X, SKIP), shares, X_IS_0), (1, 3))
            self.assertEqual(chances((X, SKIP), shares), [((0,), (1, 3)), ((1,), (2, 3))])

    def test_nothing_is_let_by(self):
        for made, shares in ((NONE, [((0,), (1, 1))]), ((X, ("see", X_IS_0)), [((1,), (5, 1))])):
            self.assertIsNone(chance(made, shares, TRUE))
            self.assertIsNone(chance_never(made, shares))
            self.assertEqual(chances(made, shares), [])

    def test_endless_is_let_by(self):
        made = (X, ("while", X_IS_0, SKIP))
        self.assertEqual(chance(made, [((0,), (1, 1))], TRUE), (0, 1))
        self.assertEqual(chance_never(made, [((0,), (1, 1))]), (1, 1))
        self.assertEqual(chances(made, [((0,), (1, 1))]), [])
        self.assertEqual(chance_never(made, [((0,), (1, 1)), ((1,), (3, 1))]), (1, 4))
        self.assertEqual(chance_never((X, LOOP), [((0,), (1, 1))]), (0, 1))

    def test_against_ahead(self):
        for seed in range(60):
            maker = reference.Maker(seed, most=12)
            made = maker.program()
            condition = maker.condition([name for name, _ in made[0]])
            shares = [(state, (maker.random.randint(1, 9), 3)) for state in states_of(made[0])]
            found, _, endless = ahead(made, shares)
            endless = reference.Fraction(*endless)
            ended = {state: reference.Fraction(*weight) for state, weight in found}
            let_by = sum(ended.values()) + endless
            if not let_by:
                self.assertIsNone(chance(made, shares, condition))
                continue
            asked = sum(ended.get(state, 0) for state in states_where(made[0], condition))
            self.assertEqual(chance(made, shares, condition), reference.pair(asked / let_by))
            self.assertEqual(chance_never(made, shares), reference.pair(endless / let_by))
            self.assertEqual(chances(made, shares),
                             [(state, reference.pair(weight / let_by)) for state, weight in sorted(ended.items())])


class ErrorsTest(unittest.TestCase):
    def test_bad_shares(self):
        one = ((0, 0), (1, 1))
        for shares in (
            [], (), (one,), [list(one)], [([0, 0], (1, 1))], [((0, 0), [1, 1])], [((0, 0), (0, 1))], [((0, 0), (-1, 1))],
            [((0, 0), (1, 0))], [((0, 0), (1, -1))], [((0, 0), 1)], [((0, 0),)], [((0, 0), (1, 1), 1)], [one, one],
            [((0, 1), (1, 1)), one], [one, ((0, 1), (0, 5))], [((0,), (1, 1))], [((0, 0, 0), (1, 1))], [((0, 2), (1, 1))],
            [((-1, 0), (1, 1))], [((True, 0), (1, 1))], [((0, 0), (True, 1))], [((0, 0), (1, True))], [((0, "0"), (1, 1))],
            None, {}, {(0, 0): (1, 1)}, 1, [None], [()], nested(99), [one, ((0, 1), None)], [one, ((1,), (1, 1))],
            [((0, 0), ("1", 1))], [((0, 0), (1, 1, 1))],
        ):
            for call in all_calls((XY, COIN), shares):
                with self.assertRaises(BadShares):
                    call()
        for thing in OTHERS:
            for call in all_calls((XY, COIN), thing):
                with self.assertRaises(BadShares):
                    call()

    def test_a_list_for_a_tuple_and_truths_at_each_place(self):
        good = [((0,), (1, 1)), ((1,), (1, 2))]
        for change in (other_sequence, as_truth):
            for thing in changed(good, change):
                for call in all_calls((X, COIN), thing):
                    with self.assertRaises(BadShares):
                        call()

    def test_choices_and_no_programs(self):
        for made, error in (((X, CHOICE), HasChoices), ((X, seq(LOOP, CHOICE)), HasChoices), ((X, seq(SKIP)), BadProgram),
                            (None, BadProgram), (nested(99), BadProgram)):
            for call in all_calls(made, [((0,), (1, 1))]):
                with self.assertRaises(error):
                    call()

    def test_bad_conditions(self):
        for condition in (None, True, ONE, ["true"], nots(10), ("is", ("var", "y"), ONE)):
            with self.assertRaises(BadCondition):
                chance((X, COIN), [((0,), (1, 1))], condition)

    def test_new_lists_and_nothing_changed(self):
        before = frozen(SHARES)
        for call in (lambda: ahead(PART, SHARES)[0], lambda: chances(PART, SHARES)):
            first = call()
            kept = list(first)
            first.clear()
            self.assertEqual(call(), kept)
        self.assertEqual(frozen(SHARES), before)


if __name__ == "__main__":
    unittest.main()
