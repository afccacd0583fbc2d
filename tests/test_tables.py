"""Tables (3, 11)."""

import unittest

from alikechances.building import then, with_vars
from alikechances.errors import BadCondition, BadProgram, BadShare, BadTable, BadVars, HasChoices
from alikechances.tables import is_table, joined, looped, mixed, table
from tests import reference
from tests.helpers import (
    CHOICE,
    COIN,
    LOOP,
    OTHERS,
    SKIP,
    TRUE,
    X,
    X_IS_0,
    XY,
    as_none,
    as_truth,
    changed,
    frozen,
    ifs,
    nested,
    nots,
    other_sequence,
    program,
    seq,
    whiles,
)

N = (0, 1)
A = (1, 1)
H = (1, 2)
STAY = (((A, N), N, N), ((N, A), N, N))
FLIP = (((N, A), N, N), ((A, N), N, N))
COINS = (((H, H), N, N), ((H, H), N, N))
MUCH = ((((1, 3), N), (1, 6), H), ((N, (3, 4)), N, (1, 4)))


def of_x(text, variables="x 2"):
    return table(program(text, variables))


class StatementsTest(unittest.TestCase):
    def test_each_statement(self):
        self.assertEqual(table((X, SKIP)), STAY)
        self.assertEqual(table(program=(X, SKIP)), STAY)
        self.assertEqual(of_x("x := (1 - x)"), FLIP)
        self.assertEqual(of_x("x := (x - 99)"), FLIP)
        self.assertEqual(of_x("draw x from 0 weight 3, 1 weight 3"), COINS)
        self.assertEqual(of_x("draw x from x weight 1, x weight 98, (x + 1) weight 99"), COINS)
        self.assertEqual(of_x("draw x from 1 weight 5, 0 weight 10"), ((((2, 3), (1, 3)), N, N),) * 2)
        self.assertEqual(of_x("see (x is 1)"), (((N, N), A, N), ((N, A), N, N)))
        self.assertEqual(of_x("if (x is 0) then (x := 1) else (see (x is 0))"), (((N, A), N, N), ((N, N), A, N)))
        self.assertEqual(of_x("draw x from 0 weight 1, 1 weight 1; see (x is 0)"), (((H, N), H, N),) * 2)

    def test_states_go_ascending(self):
        self.assertEqual(of_x("x := y", "x 2, y 3"), tuple(
            (tuple(A if (a, b) == (y % 2, y) else N for a in range(2) for b in range(3)), N, N)
            for _ in range(2) for y in range(3)
        ))

    def test_the_example(self):
        self.assertEqual(table(program("draw x from 0 weight 1, 1 weight 1; see (x is y)"))[0], ((H, N, N, N), H, N))
        self.assertEqual(table(program("x := y"))[0], ((A, N, N, N), N, N))


class LoopsTest(unittest.TestCase):
    def test_loops_that_end(self):
        self.assertEqual(table((X, LOOP)), (((N, A), N, N), ((N, A), N, N)))
        self.assertEqual(of_x("while (x below 2) do (draw x from 0 weight 1, 1 weight 1, 2 weight 1, 3 weight 1)", "x 4")[0],
                         ((N, N, H, H), N, N))

    def test_loops_that_never_end(self):
        never = ((N, N), N, A)
        self.assertEqual(of_x("while true do (skip)"), (never, never))
        self.assertEqual(of_x("while (x is 0) do (skip)"), (never, ((N, A), N, N)))
        self.assertEqual(of_x("while true do (x := (x + 1))"), (never, never))
        self.assertEqual(of_x("while true do (draw x from 0 weight 1, 1 weight 7)"), (never, never))
        found = table(program("while (x is 0) do (draw y from 0 weight 1, 1 weight 1)"))
        self.assertEqual(found[:2], (((N,) * 4, N, A),) * 2)
        self.assertEqual(found[2:], (((N, N, A, N), N, N), ((N, N, N, A), N, N)))

    def test_loops_that_are_refused(self):
        self.assertEqual(of_x("while (x is 0) do (draw x from 0 weight 1, 1 weight 1; see (x is 0))"),
                         (((N, N), A, N), ((N, A), N, N)))
        self.assertEqual(of_x("while true do (see (x is 1))")[0], ((N, N), A, N))

    def test_a_part_of_the_weight_never_ends(self):
        text = "while (x below 2) do (if (x is 0) then (draw x from 0 weight 1, 1 weight 1, 2 weight 1) else (skip))"
        self.assertEqual(of_x(text, "x 3"), (((N, N, H), N, H), ((N, N, N), N, A), ((N, N, A), N, N)))
        text = ("while (x below 2) do (if (x is 0) then (draw x from 0 weight 1, 1 weight 1, 2 weight 1, 3 weight 2; "
                "see (x below 3)) else (skip))")
        self.assertEqual(of_x(text, "x 4")[0], ((N, N, (1, 4), N), H, (1, 4)))

    def test_loops_within_loops(self):
        text = ("while (x is 0) do (y := 0; while (y is 0) do (draw y from 0 weight 1, 1 weight 2); "
                "draw x from 0 weight 3, 1 weight 1)")
        self.assertEqual(table(program(text))[0], ((N, N, N, A), N, N))
        text = "while (x is 0) do (while (y is 0) do (skip); draw x from 0 weight 1, 1 weight 1)"
        self.assertEqual(table(program(text))[:2], (((N,) * 4, N, A), ((N, N, N, A), N, N)))
        self.assertEqual(table((X, whiles(11, COIN)))[0], ((N, A), N, N))
        self.assertEqual(table((X, whiles(11, SKIP)))[0], ((N, N), N, A))

    def test_a_walk_of_twenty_four_states(self):
        walk = program(
            "while not ((a is 0) or (a is 5)) do (draw a from (a - 1) weight 1, (a + 1) weight 1; "
            "draw b from b weight 1, (b + 1) weight 1)", "a 6, b 4",
        )
        found = table(walk)
        self.assertEqual(len(found), 24)
        for at, (row, refused, endless) in enumerate(found):
            self.assertEqual((refused, endless), (N, N))
            ruin = sum(reference.Fraction(*weight) for weight in row[:4])
            self.assertEqual(ruin, 1 - reference.Fraction(at // 4, 5))

    def test_rows_are_together_one_and_in_lowest_terms(self):
        for seed in range(60):
            made = reference.Maker(seed).program()
            found = table(made)
            self.assertIs(is_table(made[0], found), True)
            for row, refused, endless in found:
                self.assertEqual(sum(reference.Fraction(*weight) for weight in (*row, refused, endless)), 1)
                for weight in (*row, refused, endless):
                    self.assertEqual(weight, reference.pair(reference.Fraction(*weight)))

    def test_against_one_chain(self):
        for seed in range(150):
            made = reference.Maker(seed, most=12).program(5)
            self.assertEqual(table(made), reference.table(made), made)

    def test_great_ones_against_one_chain(self):
        for seed in range(40):
            maker = reference.Maker(seed, ("set", "draw", "while", "while", "if", "see"), sizes=(2, 4, 6))
            made = maker.program(6)
            self.assertEqual(table(made), reference.table(made), made)

    def test_errors(self):
        for thing in OTHERS + ((X, seq(SKIP)), (X, ifs(12)), nested(99)):
            if thing != (X, SKIP):
                with self.assertRaises(BadProgram):
                    table(thing)
        for statement in (CHOICE, ("while", X_IS_0, CHOICE), ("if", TRUE, SKIP, CHOICE)):
            with self.assertRaises(HasChoices):
                table((X, statement))


class IsTableTest(unittest.TestCase):
    def test_tables(self):
        for good in (STAY, FLIP, COINS, MUCH, (((N, N), A, N), ((N, N), N, A))):
            self.assertIs(is_table(X, good), True)
            self.assertIs(is_table(variables=X, thing=good), True)
            self.assertIs(is_table(XY, good), False)
            self.assertIs(is_table((("x", 3),), good), False)

    def test_a_list_for_a_tuple_at_each_place(self):
        found = list(changed(MUCH, other_sequence))
        self.assertEqual(len(found), 1 + 2 + 2 + 8)
        for thing in found:
            self.assertIs(is_table(X, thing), False, thing)

    def test_truths_and_none(self):
        for change in (as_truth, as_none):
            for thing in changed(MUCH, change):
                self.assertIs(is_table(X, thing), False, thing)

    def test_a_line_or_a_weight_more_or_less(self):
        for thing in (MUCH[:1], MUCH + MUCH[:1], (), (MUCH[0][:2], MUCH[1]), (MUCH[0] + (N,), MUCH[1]),
                      (((A,), N, N), STAY[1]), (((A, N, N), N, N), STAY[1]), (((), A, N), STAY[1]),
                      (STAY[0], ((N, A, N), N, N)), (STAY[0], (N, A), N, N), (STAY[0], (A, N, N, N))):
            self.assertIs(is_table(X, thing), False, thing)

    def test_weights(self):
        for bad in (((((2, 4), H), N, N), STAY[1]), (((H, H), (0, 2), N), STAY[1]), (((H, H), N, (0, 3)), STAY[1]),
                    (((A, H), N, (-1, 2)), STAY[1]), (((A, H), (-1, 2), N), STAY[1]), ((((-1, 1), A), A, N), STAY[1]),
                    (((H, (1, 3)), N, N), STAY[1]), (((A, A), N, N), STAY[1]), (((N, N), N, N), STAY[1]),
                    ((((1, 0), N), N, N), STAY[1]), ((((-1, -1), N), N, N), STAY[1]), (((1, 0), N, N), STAY[1]),
                    ((((1, 1, 1), N), N, N), STAY[1]), ((((1,), N), N, N), STAY[1]), ((("1", 1), N, N), STAY[1]),
                    (STAY[0], ((H, N), (1, 3), (1, 5)))):
            self.assertIs(is_table(X, bad), False, bad)
            with self.assertRaises(BadTable):
                joined(X, bad, STAY)

    def test_any_object(self):
        for thing in OTHERS + (nested(99), [1] * 30, ((),) * 2):
            self.assertIs(is_table(X, thing), False)
        for thing in (None, (), [("x", 2)], (("x", 7),), (("x", True),)):
            with self.assertRaises(BadVars):
                is_table(thing, STAY)


class JoinedTest(unittest.TestCase):
    def test_the_first_and_then_the_second(self):
        self.assertEqual(joined(X, FLIP, FLIP), STAY)
        self.assertEqual(joined(variables=X, table=FLIP, other=MUCH), (MUCH[1], MUCH[0]))
        self.assertEqual(joined(X, MUCH, STAY), MUCH)
        self.assertEqual(joined(X, STAY, MUCH), MUCH)
        self.assertEqual(joined(X, COINS, MUCH), ((((1, 6), (3, 8)), (1, 12), (3, 8)),) * 2)
        self.assertEqual(joined(X, MUCH, COINS), ((((1, 6), (1, 6)), (1, 6), H), (((3, 8), (3, 8)), N, (1, 4))))
        never = (((N, N), N, A), ((N, N), A, N))
        self.assertEqual(joined(X, never, MUCH), never)

    def test_it_is_the_table_of_then(self):
        for seed in range(40):
            maker = reference.Maker(seed, most=9)
            first = maker.program(3)
            other = (first[0], maker.seq([name for name, _ in first[0]], 3))
            self.assertEqual(joined(first[0], table(first), table(other)), reference.table(then(first, other)))


class MixedTest(unittest.TestCase):
    def test_shares(self):
        self.assertEqual(mixed(X, MUCH, FLIP, (0, 1)), FLIP)
        self.assertEqual(mixed(X, MUCH, FLIP, (0, 7)), FLIP)
        self.assertEqual(mixed(X, MUCH, FLIP, (1, 1)), MUCH)
        self.assertEqual(mixed(X, MUCH, FLIP, (9, 9)), MUCH)
        self.assertEqual(mixed(variables=X, table=STAY, other=FLIP, share=(1, 2)), COINS)
        self.assertEqual(mixed(X, STAY, FLIP, (50, 100)), COINS)
        self.assertEqual(mixed(X, MUCH, COINS, (2, 8)), (
            (((11, 24), (3, 8)), (1, 24), (1, 8)), (((3, 8), (9, 16)), N, (1, 16)),
        ))

    def test_bad_shares(self):
        for share in ((-1, 2), (3, 2), (2, 1), (1, 0), (0, 0), (-1, -2), [1, 2], (1, 2, 3), (1,), (), 0, 1, None, "1/2",
                      (True, 1), (1, True), (False, 2), ("1", 2), nested(99), ((1, 2), 1)):
            with self.assertRaises(BadShare):
                mixed(X, STAY, FLIP, share)


class LoopedTest(unittest.TestCase):
    def test_loops(self):
        self.assertEqual(looped(X_IS_0, X, COINS), (((N, A), N, N), ((N, A), N, N)))
        self.assertEqual(looped(condition=X_IS_0, variables=X, table=STAY), (((N, N), N, A), ((N, A), N, N)))
        self.assertEqual(looped(TRUE, X, FLIP), (((N, N), N, A), ((N, N), N, A)))
        self.assertEqual(looped(nots(1), X, MUCH), STAY)
        self.assertEqual(looped(X_IS_0, X, MUCH), (((N, N), (1, 4), (3, 4)), ((N, A), N, N)))
        self.assertEqual(looped(TRUE, X, MUCH), (((N, N), (1, 4), (3, 4)), ((N, N), N, A)))

    def test_it_is_the_table_of_the_while(self):
        for seed in range(40):
            maker = reference.Maker(seed, most=9)
            body = maker.program(4)
            condition = maker.condition([name for name, _ in body[0]])
            expected = reference.table((body[0], ("while", condition, body[1])))
            self.assertEqual(looped(condition, body[0], table(body)), expected)

    def test_bad_conditions(self):
        for condition in (None, True, ["true"], nots(10), ("is", ("var", "y"), ("num", 0)), ("num", 1)):
            with self.assertRaises(BadCondition):
                looped(condition, X, STAY)


class BadThingsTest(unittest.TestCase):
    calls = (
        lambda variables, thing: joined(variables, thing, thing), lambda variables, thing: mixed(variables, thing, thing, H),
        lambda variables, thing: looped(TRUE, variables, thing),
    )

    def test_bad_variables(self):
        for call in self.calls:
            for variables in ((), [("x", 2)], (("x", 1),), (("x", True),), None):
                with self.assertRaises(BadVars):
                    call(variables, STAY)

    def test_bad_tables(self):
        wide = table((XY, SKIP))
        for thing in OTHERS + (wide, STAY[:1], list(STAY), (((2, 2), N), STAY[1]), nested(99)):
            for call in self.calls:
                with self.assertRaises(BadTable):
                    call(X, thing)
            with self.assertRaises(BadTable):
                joined(X, STAY, thing)
            with self.assertRaises(BadTable):
                mixed(X, STAY, thing, H)

    def test_nothing_is_changed(self):
        before = frozen(MUCH)
        for call in self.calls:
            self.assertEqual(call(X, MUCH), call(X, MUCH))
        self.assertEqual(frozen(MUCH), before)

    def test_great_numbers_may_be_handed_back(self):
        made = program("; ".join(["draw x from 0 weight 97, 1 weight 2, x weight 89"] * 60), "x 2")
        found = table(made)
        self.assertGreater(found[0][0][0][1], 10 ** 60)
        self.assertIs(is_table(X, found), True)
        self.assertIs(is_table(X, joined(X, found, found)), True)
        self.assertEqual(len(table(with_vars(made, (("x", 2), ("y", 3), ("z", 4))))), 24)


if __name__ == "__main__":
    unittest.main()
