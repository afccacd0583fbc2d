"""What is sure and possible, and how far apart programs are (30)."""

import itertools
import unittest
from fractions import Fraction

from alikechances.errors import BadCondition, BadProgram, HasChoices, NotAlike
from alikechances.orders import apart, less_sure, possible, sure
from alikechances.programs import states_of
from alikechances.values import behind
from tests import reference
from tests.helpers import CHOICE, COIN, LOOP, OTHERS, SKIP, TRUE, X, X_IS_0, XY, nested, nots, program, seq

FALSE = ("not", TRUE)
NOTHING = program("see not true", "x 2")


def lines_of(made):
    """For each state ahead the weights behind, the refused and the endless one, as Fractions."""
    return [[Fraction(*weight) for weight in (*line[0], line[1], line[2])] for line in reference.table(made)]


def truths(made, condition):
    names = [name for name, _ in made[0]]
    return [reference.truth(condition, dict(zip(names, state))) for state in states_of(made[0])]


class SureTest(unittest.TestCase):
    def test_all_that_is_let_by(self):
        self.assertEqual(sure((X, SKIP), X_IS_0), [(0,)])
        self.assertEqual(sure((X, COIN), X_IS_0), [])
        self.assertEqual(sure((X, COIN), TRUE), [(0,), (1,)])
        self.assertEqual(sure(program("draw x from 0 weight 1, 1 weight 1; see (x is 0)", "x 2"), X_IS_0), [(0,), (1,)])
        self.assertEqual(sure(program=(X, LOOP), condition=("is", ("var", "x"), ("num", 1))), [(0,), (1,)])
        self.assertEqual(sure(program("x := y"), ("is", ("var", "x"), ("var", "y"))), [(0, 0), (0, 1), (1, 0), (1, 1)])

    def test_also_where_nothing_is_let_by(self):
        self.assertEqual(sure(NOTHING, FALSE), [(0,), (1,)])
        self.assertEqual(sure(program("see (x is 1)", "x 2"), FALSE), [(0,)])
        self.assertEqual(sure(program("see (x is 1)", "x 2"), TRUE), [(0,), (1,)])

    def test_not_where_the_endless_weight_is_above_0(self):
        self.assertEqual(sure((X, ("while", X_IS_0, SKIP)), TRUE), [(1,)])
        part = program("draw x from 0 weight 1, 1 weight 98; while (x is 0) do (skip)", "x 2")
        self.assertEqual(sure(part, TRUE), [])
        self.assertEqual(sure((X, ("while", TRUE, SKIP)), FALSE), [])

    def test_possible(self):
        self.assertEqual(possible((X, SKIP), X_IS_0), [(0,)])
        self.assertEqual(possible((X, COIN), X_IS_0), [(0,), (1,)])
        self.assertEqual(possible((X, COIN), FALSE), [])
        self.assertEqual(possible(NOTHING, TRUE), [])
        self.assertEqual(possible(program("see (x is 1)", "x 2"), TRUE), [(1,)])
        self.assertEqual(possible((X, ("while", X_IS_0, SKIP)), TRUE), [(1,)])
        self.assertEqual(possible(program=(X, LOOP), condition=X_IS_0), [])
        self.assertEqual(possible(program("draw x from 1 weight 99, 0 weight 1", "x 2"), X_IS_0), [(0,), (1,)])

    def test_against_the_tables(self):
        told = 0
        for seed in range(120):
            maker = reference.Maker(seed, most=9)
            made = maker.program(4)
            condition = maker.condition([name for name, _ in made[0]])
            hold = truths(made, condition)
            surely, perhaps = [], []
            for state, line in zip(states_of(made[0]), lines_of(made)):
                ended = sum(weight for weight, truth in zip(line, hold) if truth)
                if ended == 1 - line[-2]:
                    surely.append(state)
                if ended:
                    perhaps.append(state)
            told += bool(surely) and surely != perhaps
            self.assertEqual(sure(made, condition), surely)
            self.assertEqual(possible(made, condition), perhaps)
        self.assertGreater(told, 10)


class LessSureTest(unittest.TestCase):
    def both(self, one, other, expected, turned):
        self.assertIs(less_sure(one, other), expected)
        self.assertIs(less_sure(program=other, other=one), turned)

    def test_both_ways(self):
        self.both((X, COIN), (X, COIN), True, True)
        self.both(NOTHING, (X, COIN), True, False)
        self.both((X, SKIP), (X, COIN), False, False)
        self.both(program("draw x from 0 weight 1, 1 weight 1; see (x is 0)", "x 2"), (X, COIN), True, False)
        self.both(program("draw x from 0 weight 5, 1 weight 4; see (x is 0)", "x 2"), (X, COIN), False, False)

    def test_only_the_states_behind_count(self):
        endless = (X, ("while", TRUE, SKIP))
        self.both(NOTHING, endless, True, True)
        self.both(endless, (X, SKIP), True, False)
        self.both((X, ("while", X_IS_0, SKIP)), (X, SKIP), True, False)

    def test_from_each_state(self):
        one = program("if (x is 2) then (draw x from 0 weight 1, 1 weight 2) else (see not true)", "x 3")
        self.both(one, program("draw x from 0 weight 1, 1 weight 2", "x 3"), True, False)
        self.both(one, program("draw x from 0 weight 2, 1 weight 1", "x 3"), False, False)

    def test_against_the_tables(self):
        found = [0, 0]
        for seed in range(200):
            maker = reference.Maker(seed, ("skip", "set", "draw", "see", "if", "while"), most=4, sizes=(2,))
            variables = maker.variables()
            names = [name for name, _ in variables]
            one = (variables, maker.statement(names, 3))
            other = (variables, maker.statement(names, 3))
            if maker.random.random() < 0.4 and one[1][0] != "seq":
                other = (variables, seq(one[1], ("see", maker.condition(names))))
            lines, others = lines_of(one), lines_of(other)
            expected = all(a <= b for line, told in zip(lines, others) for a, b in zip(line[:-2], told[:-2]))
            found[expected] += 1
            self.assertIs(less_sure(one, other), expected)
            if expected:
                values = tuple((maker.random.randint(0, 9), 1) for _ in lines)
                for low, high in zip(behind(one, values), behind(other, values)):
                    self.assertLessEqual(Fraction(*low), Fraction(*high))
        self.assertGreater(min(found), 30)


class ApartTest(unittest.TestCase):
    def test_the_first_such_state(self):
        self.assertEqual(apart((X, SKIP), (X, COIN)), ((1, 2), (0,), [(0,)]))
        self.assertEqual(apart((X, COIN), (X, SKIP)), ((1, 2), (0,), [(1,)]))
        one = program("if (x is 0) then (skip) else (draw x from 0 weight 1, 1 weight 1)", "x 4")
        self.assertEqual(apart(one, program("skip", "x 4")), ((1, 1), (2,), [(0,), (1,)]))
        self.assertEqual(apart(program=program("skip", "x 4"), other=one), ((1, 1), (2,), [(2,)]))

    def test_the_list_is_of_the_greater_sum(self):
        # The second one never ends with a half: it gives no state a greater chance.
        endless = program("draw x from 0 weight 1, 1 weight 1; while (x is 1) do (skip); draw x from 0 weight 1, 1 weight 1", "x 2")
        self.assertEqual(apart((X, COIN), endless), ((1, 2), (0,), [(0,), (1,)]))
        self.assertEqual(apart(endless, (X, COIN)), ((1, 2), (0,), [(0,), (1,)]))
        # From 0 the first one has a half and endless a half, the second one a quarter and three quarters elsewhere.
        one = program("if (x is 0) then (draw x from 0 weight 1, 1 weight 1; while (x is 1) do (skip)) else (skip)", "x 3")
        other = program("if (x is 0) then (draw x from 0 weight 1, 1 weight 1, 2 weight 2) else (skip)", "x 3")
        self.assertEqual(apart(one, other), ((3, 4), (0,), [(1,), (2,)]))
        self.assertEqual(apart(other, one), ((3, 4), (0,), [(1,), (2,)]))

    def test_equal_sums(self):
        one = program("draw x from 0 weight 2, 1 weight 1, 2 weight 1, 3 weight 2", "x 4")
        other = program("draw x from 0 weight 1, 1 weight 2, 2 weight 2, 3 weight 1", "x 4")
        self.assertEqual(apart(one, other), ((1, 3), (0,), [(0,), (3,)]))
        self.assertEqual(apart(other, one), ((1, 3), (0,), [(1,), (2,)]))

    def test_chances_are_over_what_is_let_by(self):
        one = program("draw x from 0 weight 1, 1 weight 1, 2 weight 3; see not (x is 2)", "x 3")
        other = program("draw x from 0 weight 1, 1 weight 3", "x 3")
        self.assertEqual(apart(one, other), ((1, 4), (0,), [(0,)]))
        self.assertEqual(apart(other, one), ((1, 4), (0,), [(1,)]))
        self.assertEqual(apart(one, program("draw x from 0 weight 3, 1 weight 3", "x 3")), ((0, 1), (0,), []))

    def test_nothing_that_differs(self):
        self.assertEqual(apart(NOTHING, NOTHING), ((0, 1), (0,), []))
        self.assertEqual(apart((XY, COIN), (XY, COIN)), ((0, 1), (0, 0), []))
        self.assertEqual(apart(program("see (x is 1)", "x 2"), program("see (x is 1); x := 1", "x 2")), ((0, 1), (0,), []))

    def test_just_one_lets_nothing_by(self):
        self.assertIsNone(apart(NOTHING, (X, COIN)))
        self.assertIsNone(apart((X, COIN), NOTHING))
        self.assertIsNone(apart((X, COIN), program("see (x is 0)", "x 2")))
        self.assertIsNone(apart(NOTHING, (X, ("while", TRUE, SKIP))))
        both = program("see (x is 0); x := 1", "x 2")
        self.assertEqual(apart(both, program("see (x is 0)", "x 2")), ((1, 1), (0,), [(1,)]))

    def test_against_all_sets_of_states(self):
        parted = 0
        for seed in range(150):
            maker = reference.Maker(seed, ("skip", "set", "draw", "see", "if", "while"), most=6, sizes=(2, 3))
            variables = maker.variables()
            names = [name for name, _ in variables]
            one, other = [(variables, maker.seq(names, 4)) for _ in range(2)]
            found = apart(one, other)
            states = states_of(variables)
            chances = [[[weight / (1 - line[-2]) for weight in line[:-2]] if line[-2] < 1 else None for line in lines_of(made)]
                       for made in (one, other)]
            if any((a is None) != (b is None) for a, b in zip(*chances)):
                self.assertIsNone(found)
                continue
            fraction, state, behind_it = found
            best = [self.greatest(a, b) if a else Fraction(0) for a, b in zip(*chances)]
            self.assertEqual(fraction, reference.pair(max(best)))
            self.assertEqual(state, states[best.index(max(best))])
            self.assertEqual(behind_it, sorted(behind_it))
            if max(best):
                parted += 1
                gaps = dict(zip(states, [a - b for a, b in zip(*[told[states.index(state)] for told in chances])]))
                self.assertEqual(abs(sum(gaps[place] for place in behind_it)), max(best))
                self.assertTrue(all(gaps[place] for place in behind_it))
                self.assertTrue(all(gaps[place] > 0 for place in behind_it) or
                                sum(gap for gap in gaps.values() if gap > 0) < max(best))
            else:
                self.assertEqual(found, ((0, 1), states[0], []))
        self.assertGreater(parted, 30)

    def greatest(self, chances, others):
        gaps = [a - b for a, b in zip(chances, others)]
        return max(abs(sum(chosen)) for many in range(len(gaps) + 1) for chosen in itertools.combinations(gaps, many))


class ErrorsTest(unittest.TestCase):
    def test_no_programs_and_choices(self):
        for made, error in (((X, CHOICE), HasChoices), ((X, ("while", X_IS_0, CHOICE)), HasChoices), ((X, seq(SKIP)), BadProgram),
                            (None, BadProgram), (nested(99), BadProgram)):
            for function in (sure, possible):
                with self.assertRaises(error):
                    function(made, TRUE)
            for function in (less_sure, apart):
                for pair in ((made, (X, COIN)), ((X, COIN), made)):
                    with self.assertRaises(error):
                        function(*pair)

    def test_unlike_variables(self):
        for function in (less_sure, apart):
            for other in ((XY, SKIP), ((("y", 2),), SKIP), ((("x", 3),), SKIP)):
                with self.assertRaises(NotAlike):
                    function((X, SKIP), other)

    def test_bad_conditions(self):
        for condition in OTHERS + (nots(10), ["true"], ("is", ("var", "y"), ("num", 0))):
            for function in (sure, possible):
                with self.assertRaises(BadCondition):
                    function((X, COIN), condition)

    def test_new_lists(self):
        for call in (lambda: sure((X, COIN), TRUE), lambda: possible((X, COIN), TRUE), lambda: apart((X, SKIP), (X, COIN))[2]):
            first = call()
            kept = list(first)
            first.clear()
            self.assertEqual(call(), kept)


if __name__ == "__main__":
    unittest.main()
