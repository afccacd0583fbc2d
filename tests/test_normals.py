"""Normal forms, and programs of draws alone (31)."""

import itertools
import math
import random
import unittest
from fractions import Fraction

from alikechances.errors import BadPairs, BadProgram, BadVars, HasChoices, HasLoops
from alikechances.normals import draw_program, normal
from alikechances.programs import has_loops, is_program, states_of
from alikechances.same import alike
from alikechances.texts import write_program
from tests import reference
from tests.helpers import (
    CHOICE,
    COIN,
    LOOP,
    OTHERS,
    SKIP,
    X,
    X_IS_0,
    XY,
    XY3,
    as_none,
    as_truth,
    changed,
    frozen,
    ifs,
    nested,
    program,
    seq,
)

STRAIGHT = ("skip", "set", "draw", "see", "if")
FOUR = (("a", 2), ("b", 3), ("c", 2), ("d", 2))


def sizes_of_all():
    """All sizes that variables can have."""
    return [sizes for many in (1, 2, 3, 4) for sizes in itertools.product(range(2, 7), repeat=many) if math.prod(sizes) <= 24]


class NormalTest(unittest.TestCase):
    def test_forms(self):
        self.assertEqual(normal((X, SKIP)), (((0,), [((0,), 1)], (1, 1)), ((1,), [((1,), 1)], (1, 1))))
        self.assertEqual(normal(program=(X, COIN)), (((0,), [((0,), 1), ((1,), 1)], (1, 1)), ((1,), [((0,), 1), ((1,), 1)], (1, 1))))
        made = program("draw x from 0 weight 2, 1 weight 4, 2 weight 6; see (x below 2)", "x 3")
        self.assertEqual(normal(made), tuple((state, [((0,), 1), ((1,), 2)], (1, 2)) for state in ((0,), (1,), (2,))))
        made = program("draw x from 1 weight 6, 0 weight 4, 1 weight 3", "x 2")
        self.assertEqual(normal(made)[0], ((0,), [((0,), 4), ((1,), 9)], (1, 1)))
        self.assertEqual(normal(program("draw x from 0 weight 50, 1 weight 50", "x 2"))[0], ((0,), [((0,), 1), ((1,), 1)], (1, 1)))

    def test_refused_by_all_and_by_a_part(self):
        self.assertEqual(normal(program("see (x is 1)", "x 2")), (((0,), [], (0, 1)), ((1,), [((1,), 1)], (1, 1))))
        self.assertEqual(normal(program("see not true", "x 2")), (((0,), [], (0, 1)), ((1,), [], (0, 1))))
        made = program("draw x from 0 weight 1, 1 weight 1; see (x is y)")
        self.assertEqual(normal(made)[1], ((0, 1), [((1, 1), 1)], (1, 2)))

    def test_what_it_tells_of_tables_and_of_being_alike(self):
        counts = [[0, 0], [0, 0]]
        for seed in range(300):
            maker = reference.Maker(seed, STRAIGHT, most=4, sizes=(2,))
            variables = maker.variables()
            names = [name for name, _ in variables]
            one = (variables, maker.statement(names, 3))
            other = (variables, maker.statement(names, 3))
            pick = maker.random.randint(0, 5)
            if pick < 2 and one[1][0] != "seq":
                ahead = ("draw", "x", ((("num", 0), 1), (("num", 1), pick + 1)))
                other = (variables, seq(ahead, ("see", X_IS_0), one[1]))
                one = (variables, seq(("set", "x", ("num", 0)), one[1]))
            first, second = normal(one), normal(other)
            same = reference.table(one) == reference.table(other)
            self.assertIs(first == second, same)
            quotients = {Fraction(*a[2]) / Fraction(*b[2]) for a, b in zip(first, second) if b[2][0]}
            but_for_one = len(quotients) < 2 and 0 not in quotients and [a[:2] for a in first] == [b[:2] for b in second]
            self.assertIs(alike(one, other), but_for_one)
            counts[same][but_for_one] += 1
        self.assertEqual(counts[1][0], 0)
        self.assertGreater(min(counts[0][0], counts[0][1], counts[1][1]), 8, counts)

    def test_it_is_the_table(self):
        for seed in range(100):
            made = reference.Maker(seed, STRAIGHT + ("seq",), most=12).program()
            states = states_of(made[0])
            for state, (ahead, pairs, weight), line in zip(states, normal(made), reference.table(made)):
                self.assertEqual(ahead, state)
                whole = sum(number for _, number in pairs)
                found = {behind: Fraction(number, whole) * Fraction(*weight) for behind, number in pairs}
                self.assertEqual([behind for behind, _ in pairs], sorted(found))
                self.assertEqual([found.get(behind, 0) for behind in states], [Fraction(*told) for told in line[0]])
                self.assertEqual(weight, reference.pair(1 - Fraction(*line[1])))
                numbers = [number for _, number in pairs]
                self.assertTrue(all(number > 0 for number in numbers))
                self.assertFalse(any(all(number % by == 0 for number in numbers) for by in range(2, 99)) and numbers)

    def test_errors(self):
        for statement, error in ((LOOP, HasLoops), (CHOICE, HasChoices), (seq(CHOICE, LOOP), HasLoops), (ifs(2, LOOP), HasLoops),
                                 (("while", X_IS_0, CHOICE), HasLoops), (ifs(3, CHOICE), HasChoices), (seq(SKIP), BadProgram)):
            with self.assertRaises(error):
                normal((X, statement))
        for thing in OTHERS:
            if thing != (X, SKIP):
                with self.assertRaises(BadProgram):
                    normal(thing)

    def test_new_lists(self):
        first = normal((X, COIN))
        kept = frozen(first)
        first[0][1].clear()
        self.assertEqual(frozen(normal((X, COIN))), kept)
        self.assertIsNot(first[0][1], first[1][1])


class DrawProgramTest(unittest.TestCase):
    def text(self, variables, pairs):
        made = draw_program(variables, pairs)
        self.assertTrue(is_program(made))
        self.assertEqual(made[0], variables)
        return write_program(made).split("; ", 1)[1]

    def test_the_example(self):
        pairs = [((0, 0), 1), ((0, 1), 1), ((2, 1), 2)]
        self.assertEqual(self.text(XY3, pairs), (
            "draw x from 0 weight 1, 2 weight 1; if (x is 0) then (draw y from 0 weight 1, 1 weight 1) else "
            "(if (x is 2) then (y := 1) else (skip))"
        ))
        self.assertEqual(draw_program(variables=XY3, pairs=pairs), draw_program(XY3, pairs))

    def test_one_pair(self):
        self.assertEqual(draw_program(X, [((1,), 1)]), (X, ("set", "x", ("num", 1))))
        self.assertEqual(draw_program(X, [((0,), 99)]), (X, ("set", "x", ("num", 0))))
        self.assertEqual(self.text(XY, [((1, 0), 7)]), "x := 1; if (x is 1) then (y := 0) else (skip)")
        self.assertEqual(self.text(FOUR, [((1, 2, 0, 1), 5)]), (
            "a := 1; if (a is 1) then (b := 2; if (b is 2) then (c := 0; if (c is 0) then (d := 1) else (skip)) else (skip)) "
            "else (skip)"
        ))

    def test_all_states(self):
        self.assertEqual(self.text(X, [((0,), 1), ((1,), 1)]), "draw x from 0 weight 1, 1 weight 1")
        self.assertEqual(self.text(XY, [((0, 0), 1), ((0, 1), 2), ((1, 0), 3), ((1, 1), 6)]), (
            "draw x from 0 weight 1, 1 weight 3; if (x is 0) then (draw y from 0 weight 1, 1 weight 2) else "
            "(if (x is 1) then (draw y from 0 weight 1, 1 weight 2) else (skip))"
        ))

    def test_four_variables(self):
        pairs = [((0, 0, 0, 0), 2), ((0, 0, 1, 1), 4), ((0, 2, 1, 0), 6), ((1, 1, 0, 0), 1), ((1, 1, 0, 1), 2), ((1, 1, 1, 1), 9)]
        self.assertEqual(self.text(FOUR, pairs), (
            "draw a from 0 weight 1, 1 weight 1; if (a is 0) then (draw b from 0 weight 1, 2 weight 1; "
            "if (b is 0) then (draw c from 0 weight 1, 1 weight 2; if (c is 0) then (d := 0) else "
            "(if (c is 1) then (d := 1) else (skip))) else "
            "(if (b is 2) then (c := 1; if (c is 1) then (d := 0) else (skip)) else (skip))) else "
            "(if (a is 1) then (b := 1; if (b is 1) then (draw c from 0 weight 1, 1 weight 3; "
            "if (c is 0) then (draw d from 0 weight 1, 1 weight 2) else (if (c is 1) then (d := 1) else (skip))) else (skip)) "
            "else (skip))"
        ))

    def test_weights_by_their_greatest_common_divisor(self):
        self.assertEqual(self.text(X, [((0,), 33), ((1,), 66)]), "draw x from 0 weight 1, 1 weight 2")
        self.assertEqual(self.text(X, [((0,), 2), ((1,), 4)]), "draw x from 0 weight 1, 1 weight 2")
        self.assertEqual(self.text((("x", 3),), [((0,), 2), ((1,), 4), ((2,), 3)]), "draw x from 0 weight 2, 1 weight 4, 2 weight 3")
        self.assertEqual(self.text(X, [((0,), 1), ((1,), 98)]), "draw x from 0 weight 1, 1 weight 98")

    def test_numbers_that_add_up_to_99_and_to_100(self):
        self.assertTrue(is_program(draw_program(X, [((0,), 49), ((1,), 50)])))
        for pairs in ([((0,), 50), ((1,), 50)], [((0,), 100)], [((0,), 10 ** 50)]):
            with self.assertRaises(BadPairs):
                draw_program(X, pairs)

    def test_it_ends_in_these_states_with_these_shares(self):
        maker = random.Random(5)
        for sizes in sizes_of_all():
            variables = tuple(zip("abcd", sizes))
            states = states_of(variables)
            for many in (1, 2, len(states) // 2, len(states)):
                chosen = sorted(maker.sample(states, max(1, many)))
                pairs = [(state, maker.randint(1, 4)) for state in chosen]
                before = frozen(pairs)
                made = draw_program(variables, pairs)
                self.assertTrue(is_program(made), variables)
                self.assertFalse(has_loops(made))
                self.assertEqual(frozen(pairs), before)
                whole = sum(number for _, number in pairs)
                shares = [reference.pair(Fraction(dict(pairs).get(state, 0), whole)) for state in states]
                if len(states) < 13:
                    self.assertEqual(reference.table(made), ((tuple(shares), (0, 1), (0, 1)),) * len(states))

    def test_back_and_forth(self):
        pairs = [((0, 1), 3), ((1, 0), 5), ((2, 1), 1)]
        self.assertEqual({tuple(told) for _, told, _ in normal(draw_program(XY3, pairs))}, {tuple(pairs)})

    def test_bad_pairs(self):
        one = ((0, 0), 1)
        for pairs in ([], (), (one,), [((0, 1), 1), one], [one, one], [one, ((0, 0), 2)], [((0, 0), 0)], [((0, 0), -1)], [((0, 0), True)],
                      [((0, True), 1)], [((0, 0), "1")], [((0, 0),)], [((0, 0), 1, 1)], [[(0, 0), 1]], [([0, 0], 1)], [((0,), 1)],
                      [((0, 0, 0), 1)], [((0, 2), 1)], [((3, 0), 1)], [((-1, 0), 1)], [one, ((0, 1), 0)], [one, ((1, 5), 1)], [one, None],
                      [((0, 0), (1, 1))], None, nested(99), {one: 1}):
            with self.assertRaises(BadPairs):
                draw_program(XY3, pairs)
        for thing in OTHERS:
            with self.assertRaises(BadPairs):
                draw_program(XY3, thing)
        good = [((0,), 1), ((1,), 1)]
        for change in (as_truth, as_none):
            for pairs in changed(good, change):
                with self.assertRaises(BadPairs):
                    draw_program(X, pairs)

    def test_bad_variables(self):
        for variables in OTHERS + (list(X), (("x", 7),), (("x", True),), (("if", 2),)):
            with self.assertRaises(BadVars):
                draw_program(variables, [((0,), 1)])


if __name__ == "__main__":
    unittest.main()
