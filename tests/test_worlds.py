"""All worlds (9), the table of them, and loops unrolled (10)."""

import unittest

from alikechances.building import then
from alikechances.errors import (
    BadCount,
    BadNumber,
    BadProgram,
    BadState,
    BadWorld,
    HasChoices,
    HasLoops,
    TooMany,
)
from alikechances.programs import has_loops, is_program, states_of
from alikechances.tables import table
from alikechances.worlds import lost, run_world, unrolled, world_of, worlds, worlds_table
from tests import reference
from tests.helpers import (
    CHOICE,
    COIN,
    LOOP,
    ONE,
    OTHERS,
    SKIP,
    TRUE,
    X,
    X_IS_0,
    XY,
    ZERO,
    ifs,
    nested,
    nots,
    program,
    seq,
    whiles,
)

SIX = ("draw", "x", (((ZERO, 1), (ONE, 1)) * 3))
SIXTY = (XY, ("seq", (SIX,) * 60))
FIVE = "draw x from 0 weight 1, 1 weight 1, 0 weight 2, 1 weight 3, 1 weight 1"
TWO = "draw x from 0 weight 1, 1 weight 1"
TWO_THOUSAND = "; ".join([FIVE] * 3 + [TWO] * 4)


def one_more():
    """A program with 2001 worlds: of one pair of a first draw 2000 come, of the other one just one."""
    return program(f"draw y from 0 weight 1, 1 weight 1; if (y is 0) then ({TWO_THOUSAND}) else (skip)")


class WorldsTest(unittest.TestCase):
    def test_draws_in_seqs_and_branches_and_sees_on_the_way(self):
        made = program(
            "draw x from 0 weight 1, 1 weight 2; if (x is 0) then (draw y from 0 weight 3, 1 weight 1; see (y is 0); "
            "draw x from 1 weight 1) else (see (y is 0)); draw y from 1 weight 1, 1 weight 3"
        )
        self.assertEqual(worlds(made, (0, 0)), [
            ((0, 0, 0, 0), (1, 16), (1, 1)), ((0, 0, 0, 1), (3, 16), (1, 1)), ((0, 1), (1, 12), None),
            ((1, 0), (1, 6), (1, 1)), ((1, 1), (1, 2), (1, 1)),
        ])
        self.assertEqual(worlds(program=made, state=(0, 1)), [
            ((0, 0, 0, 0), (1, 16), (1, 1)), ((0, 0, 0, 1), (3, 16), (1, 1)), ((0, 1), (1, 12), None), ((1,), (2, 3), None),
        ])

    def test_no_draw(self):
        self.assertEqual(worlds((X, SKIP), (1,)), [((), (1, 1), (1,))])
        self.assertEqual(worlds(program("see (x is 1); x := 0"), (0, 0)), [((), (1, 1), None)])
        self.assertEqual(worlds(program("see (x is 1); x := 0"), (1, 1)), [((), (1, 1), (0, 1))])

    def test_values_below_zero_and_above_the_size(self):
        made = program("draw x from (x - 1) weight 1, (x + 7) weight 1, 99 weight 2", "x 3")
        self.assertEqual(worlds(made, (0,)), [((0,), (1, 4), (2,)), ((1,), (1, 4), (1,)), ((2,), (1, 2), (0,))])

    def test_two_thousand_and_one_more(self):
        made = program(TWO_THOUSAND)
        found = worlds(made, (0, 0))
        self.assertEqual(len(found), 2000)
        self.assertEqual(sorted(found), found)
        self.assertEqual(len({world for world, _, _ in found}), 2000)
        with self.assertRaises(TooMany):
            worlds(one_more(), (0, 0))
        with self.assertRaises(TooMany):
            worlds_table(one_more())
        with self.assertRaises(TooMany):
            world_of(one_more(), (0, 0), 0)
        with self.assertRaises(TooMany):
            world_of(one_more(), (0, 0), 2000)
        with self.assertRaises(BadNumber):
            world_of(one_more(), (0, 0), 2001)

    def test_worlds_that_are_refused_count(self):
        refusing = one_more()[1][1]
        self.assertEqual(len(worlds((XY, seq(*refusing[:1], ("see", ("is", ("var", "y"), ("num", 1))))), (0, 0))), 2)
        with self.assertRaises(TooMany):
            worlds((XY, seq(*refusing, ("see", ("not", TRUE)))), (0, 0))

    def test_too_many_from_one_state_alone(self):
        made = program(f"if (y is 1) then ({TWO_THOUSAND}; draw y from 0 weight 1, 1 weight 1) else (skip)")
        self.assertEqual(len(worlds(made, (0, 0))), 1)
        with self.assertRaises(TooMany):
            worlds(made, (0, 1))
        with self.assertRaises(TooMany):
            worlds_table(made)

    def test_loops_and_choices(self):
        for function in (lambda made: worlds(made, (0,)), lambda made: world_of(made, (0,), 0),
                         lambda made: run_world(made, (0,), ()), worlds_table):
            for statement, error in ((LOOP, HasLoops), (CHOICE, HasChoices), (seq(CHOICE, LOOP), HasLoops),
                                     (ifs(2, LOOP), HasLoops), (ifs(2, CHOICE), HasChoices),
                                     (("while", X_IS_0, CHOICE), HasLoops)):
                with self.assertRaises(error):
                    function((X, statement))

    def test_bad_states(self):
        for state in ((), (0,), (0, 0, 0), (0, 2), (-1, 0), [0, 0], (True, 0), None, 0, nested(99)):
            for function in (worlds, lambda made, at: world_of(made, at, 0), lambda made, at: run_world(made, at, (0,)),
                             lambda made, at: lost(made, at, 3)):
                with self.assertRaises(BadState):
                    function((XY, COIN), state)

    def test_weights_are_together_one(self):
        for seed in range(60):
            made = reference.Maker(seed, ("skip", "set", "draw", "see", "if", "seq")).program()
            state = states_of(made[0])[-1]
            try:
                found = worlds(made, state)
            except TooMany:
                continue
            self.assertEqual(sum(reference.Fraction(*weight) for _, weight, _ in found), 1)
            self.assertEqual([world for world, _, _ in found], sorted({world for world, _, _ in found}))
            for number, (world, _, end) in enumerate(found):
                self.assertEqual(world_of(made, state, number), world)
                walked = run_world(made, state, world)
                self.assertEqual(walked[0], state)
                if end is not None:
                    self.assertEqual(walked[-1], end)
                for longer in (world + (0,), world[:-1]):
                    if longer != world:
                        with self.assertRaises(BadWorld):
                            run_world(made, state, longer)


class WorldOfTest(unittest.TestCase):
    def test_by_each_number(self):
        made = program("draw x from 0 weight 1, 1 weight 2; if (x is 0) then (draw y from 0 weight 1, 1 weight 1) else (skip)")
        self.assertEqual([world_of(made, (0, 0), number) for number in range(3)], [(0, 0), (0, 1), (1,)])
        self.assertEqual(world_of(program=made, state=(0, 0), number=2), (1,))
        self.assertEqual(world_of((X, SKIP), (0,), 0), ())

    def test_bad_numbers(self):
        for number in (2, 3, -1, True, False, None, "0", (0,), 10 ** 40):
            with self.assertRaises(BadNumber):
                world_of((X, COIN), (0,), number)

    def test_too_many_comes_behind_the_number(self):
        made = SIXTY
        with self.assertRaises(TooMany):
            world_of(made, (0, 0), 0)
        with self.assertRaises(TooMany):
            world_of(made, (0, 0), 6 ** 60 - 1)
        with self.assertRaises(BadNumber):
            world_of(made, (0, 0), 6 ** 60)


class RunWorldTest(unittest.TestCase):
    def test_each_kind_of_act(self):
        self.assertEqual(run_world((X, SKIP), (1,), ()), [(1,)])
        self.assertEqual(run_world((X, ("set", "x", ("num", 3))), (1,), ()), [(1,), (1,)])
        self.assertEqual(run_world((X, COIN), (1,), (0,)), [(1,), (0,)])
        self.assertEqual(run_world((X, ("see", TRUE)), (1,), ()), [(1,)])
        self.assertEqual(run_world((X, ("see", X_IS_0)), (1,), ()), [(1,)])
        made = program("skip; draw x from 0 weight 1, 1 weight 1; if (x is 1) then (y := 1; x := 0) else (y := x); "
                       "see (y is 1); draw y from 0 weight 2")
        self.assertEqual(run_world(made, (0, 1), (1, 0)), [(0, 1), (1, 1), (1, 1), (0, 1), (0, 0)])
        self.assertEqual(run_world(program=made, state=(0, 1), thing=(0,)), [(0, 1), (0, 1), (0, 0)])

    def test_bad_worlds(self):
        made = program("draw x from 0 weight 1, 1 weight 1; see (x is 1); draw y from 0 weight 1, 1 weight 1, 0 weight 1")
        for world in ((0,), (1, 0), (1, 1), (1, 2)):
            run_world(made, (0, 0), world)
        for world in ((), (1,), (0, 0), (1, 0, 0), (2,), (2, 0), (1, 3), (1, -1), (-1,), [1, 0], (True, 0), (1, False),
                      (1, None), ((1, 0),), "10", None, nested(99), 10, (1, "0")):
            with self.assertRaises(BadWorld):
                run_world(made, (0, 0), world)
        for thing in OTHERS:
            if thing != ():
                with self.assertRaises(BadWorld):
                    run_world((X, SKIP), (0,), thing)

    def test_never_too_many(self):
        made = SIXTY
        self.assertEqual(run_world(made, (0, 0), (5,) * 60), [(0, 0)] + [(1, 0)] * 60)
        with self.assertRaises(BadWorld):
            run_world(made, (0, 0), (5,) * 59)
        with self.assertRaises(BadWorld):
            run_world(made, (0, 0), (5,) * 61)
        with self.assertRaises(BadWorld):
            run_world(made, (0, 0), (5,) * 59 + (6,))


class WorldsTableTest(unittest.TestCase):
    def test_it_is_the_table(self):
        tried = 0
        for seed in range(120):
            made = reference.Maker(seed, ("skip", "set", "draw", "see", "if", "seq"), most=12).program()
            try:
                found = worlds_table(made)
            except TooMany:
                continue
            tried += 1
            self.assertEqual(found, table(made))
        self.assertGreater(tried, 100)
        self.assertEqual(worlds_table(program=(X, COIN)), table((X, COIN)))


class UnrolledTest(unittest.TestCase):
    def test_rounds(self):
        refuse = ("see", ("not", X_IS_0))
        self.assertEqual(unrolled((X, LOOP), 0), (X, refuse))
        once = ("if", X_IS_0, seq(COIN, refuse), SKIP)
        self.assertEqual(unrolled((X, LOOP), 1), (X, once))
        self.assertEqual(unrolled(program=(X, LOOP), count=2), (X, ("if", X_IS_0, seq(COIN, once), SKIP)))

    def test_seqs_are_put_together(self):
        made = (X, seq(SKIP, ("while", X_IS_0, seq(COIN, SKIP)), LOOP))
        refuse = ("see", ("not", X_IS_0))
        self.assertEqual(unrolled(made, 1), (X, seq(
            SKIP, ("if", X_IS_0, seq(COIN, SKIP, refuse), SKIP), ("if", X_IS_0, seq(COIN, refuse), SKIP),
        )))

    def test_loops_within_loops(self):
        made = (X, ("while", TRUE, LOOP))
        inner = ("if", X_IS_0, seq(COIN, ("see", ("not", X_IS_0))), SKIP)
        never = ("see", ("not", TRUE))
        self.assertEqual(unrolled(made, 0), (X, never))
        self.assertEqual(unrolled(made, 1), (X, ("if", TRUE, seq(inner, never), SKIP)))
        in_branch = (X, ("if", X_IS_0, LOOP, seq(SKIP, LOOP)))
        self.assertEqual(unrolled(in_branch, 1), (X, ("if", X_IS_0, inner, seq(SKIP, inner))))

    def test_without_loops_it_is_the_program_itself(self):
        for statement in (SKIP, CHOICE, seq(COIN, ("if", TRUE, SKIP, COIN))):
            for count in (0, 1, 20):
                self.assertEqual(unrolled((X, statement), count), (X, statement))

    def test_choices_may_stand(self):
        self.assertEqual(unrolled((X, ("while", X_IS_0, CHOICE)), 1),
                         (X, ("if", X_IS_0, seq(CHOICE, ("see", ("not", X_IS_0))), SKIP)))

    def test_bounds(self):
        made = unrolled((X, LOOP), 11)
        self.assertTrue(is_program(made))
        for count in (12, 13, 20):
            with self.assertRaises(BadProgram):
                unrolled((X, LOOP), count)
        for statement, count in ((("while", X_IS_0, ("seq", (SKIP,) * 30)), 2), (("while", nots(9), SKIP), 0),
                                 (ifs(8, LOOP), 4), (("seq", (LOOP,) * 20), 1), (whiles(11), 20), (whiles(11), 11),
                                 (whiles(11, SKIP), 3)):
            with self.assertRaises(BadProgram):
                unrolled((X, statement), count)
        self.assertTrue(is_program(unrolled((X, ifs(8, LOOP)), 3)))
        self.assertTrue(is_program(unrolled((X, ("while", nots(8), SKIP)), 0)))
        self.assertEqual(unrolled((X, whiles(11, ("while", X_IS_0, SKIP))[2]), 0), (X, ("see", ("not", X_IS_0))))

    def test_bad_counts(self):
        for count in (-1, 21, True, False, None, "1", (1,)):
            with self.assertRaises(BadCount):
                unrolled((X, SKIP), count)
            with self.assertRaises(BadCount):
                lost((X, SKIP), (0,), count)

    def test_bad_programs(self):
        for thing in OTHERS + ((X, seq(SKIP)), nested(99)):
            if thing == (X, SKIP):
                continue
            for call in (lambda: unrolled(thing, 1), lambda: lost(thing, (0,), 1), lambda: worlds(thing, (0,)),
                         lambda: world_of(thing, (0,), 0), lambda: run_world(thing, (0,), ()),
                         lambda: worlds_table(thing)):
                with self.assertRaises(BadProgram):
                    call()


def cut(statement, count):
    """The statement with each while gone round so many times, going on for ever where it would go on."""
    if statement[0] == "seq":
        return ("seq", tuple(cut(part, count) for part in statement[1]))
    if statement[0] == "if":
        return statement[:2] + tuple(cut(part, count) for part in statement[2:])
    if statement[0] != "while":
        return statement
    found = ("if", statement[1], ("while", TRUE, SKIP), SKIP)
    for _ in range(count):
        found = ("if", statement[1], seq(cut(statement[2], count), found), SKIP)
    return found


class LostTest(unittest.TestCase):
    def test_what_is_lost(self):
        for count in range(21):
            self.assertEqual(lost((X, LOOP), (0,), count), (1, 2 ** count))
            self.assertEqual(lost((X, LOOP), (1,), count), (0, 1))
        self.assertEqual(lost(program=(X, LOOP), state=(0,), count=3), (1, 8))

    def test_without_loops(self):
        for statement in (SKIP, COIN, ("see", X_IS_0), seq(COIN, ("see", X_IS_0))):
            self.assertEqual(lost((X, statement), (1,), 0), (0, 1))
            self.assertEqual(lost((X, statement), (1,), 20), (0, 1))

    def test_what_the_program_itself_refuses_is_not_lost(self):
        made = program("while (x is 0) do (draw x from 0 weight 1, 1 weight 1; draw y from 0 weight 1, 1 weight 1; see (y is 0))")
        self.assertEqual(lost(made, (0, 0), 0), (1, 1))
        self.assertEqual(lost(made, (0, 0), 1), (1, 4))
        self.assertEqual(lost(made, (0, 0), 2), (1, 16))
        early = program("see (x is 1); while true do (skip)")
        self.assertEqual(lost(early, (0, 0), 2), (0, 1))
        self.assertEqual(lost(early, (1, 0), 20), (1, 1))

    def test_loops_within_loops(self):
        made = program("while (x is 0) do (y := 0; while (y is 0) do (draw y from 0 weight 1, 1 weight 1); "
                       "draw x from 0 weight 1, 1 weight 1)")
        self.assertEqual(lost(made, (0, 0), 1), (3, 4))
        self.assertEqual(lost(made, (0, 0), 2), (31, 64))

    def test_against_loops_cut_off(self):
        with_loops = 0
        for seed in range(80):
            made = reference.Maker(seed, most=9).program()
            with_loops += has_loops(made)
            for count in (0, 1, 2):
                ends = reference.table((made[0], cut(made[1], count)))
                for state, (_, _, endless) in zip(states_of(made[0]), ends):
                    self.assertEqual(lost(made, state, count), endless)
        self.assertGreater(with_loops, 20)

    def test_unrolled_is_the_program_but_for_what_is_lost(self):
        for seed in range(80):
            made = reference.Maker(seed, most=9).program()
            try:
                straight = unrolled(made, 1)
            except BadProgram:
                continue
            self.assertFalse(has_loops(straight))
            ends = reference.table((made[0], cut(made[1], 1)))
            for told, (row, refused, endless) in zip(table(straight), ends):
                both = reference.Fraction(*refused) + reference.Fraction(*endless)
                self.assertEqual(told, (row, reference.pair(both), (0, 1)))

    def test_also_where_unrolled_would_be_none(self):
        made = program("while (x is 0) do (while (y is 0) do (draw y from 0 weight 1, 1 weight 1); "
                       "draw y from 0 weight 1, 1 weight 1; draw x from 0 weight 1, 1 weight 1)")
        with self.assertRaises(BadProgram):
            unrolled(made, 20)
        found = reference.Fraction(*lost(made, (0, 0), 20))
        self.assertTrue(0 < found < reference.Fraction(1, 2 ** 18))
        self.assertEqual(lost((X, whiles(11)), (0,), 20), (1, 1))

    def test_choices(self):
        for statement in (CHOICE, seq(LOOP, CHOICE), ("while", X_IS_0, CHOICE)):
            with self.assertRaises(HasChoices):
                lost((X, statement), (0,), 1)


class NewTest(unittest.TestCase):
    def test_returned_lists_are_new(self):
        for call in (lambda: worlds((X, COIN), (0,)), lambda: run_world((X, COIN), (0,), (1,))):
            first = call()
            kept = list(first)
            first.clear()
            self.assertEqual(call(), kept)

    def test_what_is_put_together_is_worked_alike(self):
        made = then((X, COIN), (X, ("see", X_IS_0)))
        self.assertEqual(worlds(made, (1,)), [((0,), (1, 2), (0,)), ((1,), (1, 2), None)])


if __name__ == "__main__":
    unittest.main()
