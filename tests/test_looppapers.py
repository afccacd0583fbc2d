"""Loop table papers (17)."""

import unittest

from alikechances.errors import BadCondition, BadTable, BadVars
from alikechances.looppapers import loop_paper, loop_paper_holds
from alikechances.programs import states_of
from alikechances.tables import looped, table
from tests import reference
from tests.helpers import (
    COIN,
    ONE,
    OTHERS,
    SKIP,
    TRUE,
    VX,
    VY,
    X,
    X_IS_0,
    XY,
    as_none,
    as_truth,
    changed,
    frozen,
    nested,
    nots,
    other_sequence,
    program,
)

N = (0, 1)
A = (1, 1)
H = (1, 2)
X3 = (("x", 3),)
X6 = (("x", 6),)
X_BELOW_2 = ("below", VX, ("num", 2))
X_BELOW_5 = ("below", VX, ("num", 5))
EXAMPLE = ((((1, 3), (1, 3), (1, 3)), N, N), ((N, A, N), N, N), ((N, N, A), N, N))
NEVER = ((N, N, N), N, A)
PAPER = (((((N, N, H), N, H)), NEVER, ((N, N, A), N, N)), (((2,),), None, ()))
# From 0 to 1, 2 or 3, from 1 to 4, from 2 and 3 to 4 or 5, from 4 back to 0 or refused, 5 is out.
MAZE = table(program(
    "if (x is 0) then (draw x from 1 weight 1, 2 weight 1, 3 weight 1) else (if (x is 1) then (x := 4) else "
    "(if (x below 4) then (draw x from 4 weight 1, 5 weight 1) else (draw x from 0 weight 1, 5 weight 1; see (x is 0))))", "x 6",
))
MAZE_WAYS = (((2,), (4,)), ((4,),), ((4,),), ((4,),), (), ())


def truths(condition, variables):
    names = [name for name, _ in variables]
    return [reference.truth(condition, dict(zip(names, state))) for state in states_of(variables)]


def first_ways(condition, variables, body):
    """The first shortest ways, by trying all of them, shorter ones first."""
    states = states_of(variables)
    hold = truths(condition, variables)
    outs = [not hold[at] or line[1] != N or line[2] != N for at, line in enumerate(body)]
    found = []
    for at in range(len(states)):
        ways = [()]
        answer = () if outs[at] else None
        for _ in states:
            if answer is not None:
                break
            ways = [way + (to,) for way in ways for to in range(len(states)) if body[(at, *way)[-1]][0][to] != N
                    and to not in way and (not way or hold[way[-1]])]
            ended = [way for way in ways if outs[way[-1]]]
            if ended:
                answer = tuple(states[to] for to in min(ended))
        found.append(answer)
    return tuple(found)


def made_loops(seeds):
    """Conditions, variables and tables, some of programs, some of rows with few weights, so that ways are long."""
    for seed in range(seeds):
        maker = reference.Maker(seed, most=6, sizes=(2, 3))
        if seed % 2:
            variables, statement = maker.program(4)
            yield maker.condition([name for name, _ in variables]), variables, table((variables, statement))
            continue
        variables = (("x", 3), ("y", 2))
        rows = []
        for _ in range(6):
            weights = [maker.random.choice((0, 0, 0, 1, 2)) for _ in range(6)] + [maker.random.choice((0,) * 9 + (1,)) for _ in range(2)]
            weights[maker.random.randint(0, 5)] += 1
            told = [reference.pair(reference.Fraction(weight, sum(weights))) for weight in weights]
            rows.append((tuple(told[:6]), told[6], told[7]))
        few = ("and", ("is", VX, ("num", 2)), ("is", VY, ONE))
        yield ("not", few), variables, tuple(rows)


class LoopPaperTest(unittest.TestCase):
    def test_the_example(self):
        self.assertEqual(loop_paper(X_BELOW_2, X3, EXAMPLE), PAPER)
        self.assertEqual(loop_paper(condition=X_BELOW_2, variables=X3, table=EXAMPLE), PAPER)
        self.assertIs(loop_paper_holds(X_BELOW_2, X3, EXAMPLE, PAPER), True)
        self.assertIs(loop_paper_holds(condition=X_BELOW_2, variables=X3, table=EXAMPLE, thing=PAPER), True)

    def test_the_condition_does_not_hold(self):
        self.assertEqual(loop_paper(nots(1), X, table((X, COIN)))[1], ((), ()))
        self.assertEqual(loop_paper(X_IS_0, X, table((X, COIN))), ((((N, A), N, N),) * 2, (((1,),), ())))

    def test_refused_or_endless_bodies(self):
        self.assertEqual(loop_paper(TRUE, X, table(program("see (x is 1)", "x 2")))[1], ((), None))
        self.assertEqual(loop_paper(TRUE, X, table(program("see (x is 1); x := 0", "x 2")))[1], ((), ((0,),)))
        endless = program("draw x from 0 weight 1, 1 weight 1; while (x is 0) do (skip)", "x 2")
        self.assertEqual(loop_paper(TRUE, X, table(endless)), ((((N, N), N, A),) * 2, ((), ())))

    def test_no_way(self):
        self.assertEqual(loop_paper(TRUE, X, table((X, COIN))), ((((N, N), N, A),) * 2, (None, None)))
        self.assertEqual(loop_paper(TRUE, XY, table((XY, SKIP)))[1], (None,) * 4)

    def test_the_first_shortest_ways(self):
        self.assertEqual(loop_paper(X_BELOW_5, X6, MAZE)[1], (((1,), (4,)),) + MAZE_WAYS[1:])
        walk = table(program("draw x from (x - 1) weight 1, (x + 1) weight 1", "x 6"))
        inside = ("not", ("or", ("is", VX, ("num", 0)), ("is", VX, ("num", 5))))
        self.assertEqual(loop_paper(inside, X6, walk)[1], ((), ((0,),), ((1,), (0,)), ((4,), (5,)), ((5,),), ()))
        two = table(program("if (x is 0) then (draw x from 0 weight 9, 5 weight 1, 4 weight 1) else (skip)", "x 6"))
        self.assertEqual(loop_paper(("below", VX, ("num", 4)), X6, two)[1], (((4,),), None, None, None, (), ()))
        states = table(program("if (y is 0) then (draw x from 0 weight 1, 1 weight 1; y := 1) else (skip)", "x 2, y 3"))
        self.assertEqual(loop_paper(("is", VY, ("num", 0)), (("x", 2), ("y", 3)), states)[1],
                         (((0, 1),), (), (), ((0, 1),), (), ()))

    def test_against_all_ways(self):
        kinds = {"none": 0, "out": 0, "one": 0, "more": 0}
        for condition, variables, told in made_loops(150):
            rows, ways = loop_paper(condition, variables, told)
            self.assertEqual(rows, looped(condition, variables, told))
            self.assertEqual(ways, first_ways(condition, variables, told))
            self.assertIs(loop_paper_holds(condition, variables, told, (rows, ways)), True)
            for way in ways:
                kinds["none" if way is None else "out" if way == () else "one" if len(way) == 1 else "more"] += 1
        self.assertGreater(min(kinds.values()), 4, kinds)


class LoopPaperHoldsTest(unittest.TestCase):
    def maze(self, ways, rows=None):
        rows = rows or looped(X_BELOW_5, X6, MAZE)
        return loop_paper_holds(X_BELOW_5, X6, MAZE, (rows, ways))

    def with_way(self, at, way):
        return self.maze(MAZE_WAYS[:at] + (way,) + MAZE_WAYS[at + 1:])

    def test_other_right_ways(self):
        self.assertIs(self.maze(MAZE_WAYS), True)
        self.assertIs(self.with_way(0, ((2,), (5,))), True)
        self.assertIs(self.with_way(0, ((3,), (5,))), True)
        self.assertIs(self.with_way(0, ((1,), (4,))), True)

    def test_longer_ways(self):
        self.assertIs(self.with_way(1, ((4,), (0,), (3,), (5,))), True)
        self.assertIs(self.with_way(1, ((4,), (0,), (1,), (4,), (0,), (2,), (4,))), True)
        self.assertIs(self.with_way(0, ((1,), (4,), (0,), (1,), (4,))), True)

    def test_a_step_that_the_body_cannot_go(self):
        self.assertIs(self.with_way(0, ((4,),)), False)
        self.assertIs(self.with_way(0, ((5,),)), False)
        self.assertIs(self.with_way(0, ((1,), (5,))), False)
        self.assertIs(self.with_way(1, ((1,), (4,))), False)
        self.assertIs(self.with_way(1, ((4,), (5,))), False)
        self.assertIs(self.with_way(2, ((4,), (0,), (4,))), False)

    def test_the_last_one_with_the_way_of_nothing(self):
        self.assertIs(self.with_way(0, ((1,),)), False)
        self.assertIs(self.with_way(1, ((4,), (0,))), False)
        self.assertIs(self.with_way(0, ()), False)
        self.assertIs(self.with_way(3, ()), False)

    def test_all_but_the_last_with_the_condition(self):
        told = table(program("draw x from (x - 1) weight 1, (x + 1) weight 1", "x 6"))
        inside = ("not", ("or", ("is", VX, ("num", 0)), ("is", VX, ("num", 5))))
        rows = looped(inside, X6, told)
        good = ((), ((0,),), ((1,), (0,)), ((4,), (5,)), ((5,),), ())
        self.assertIs(loop_paper_holds(inside, X6, told, (rows, good)), True)
        over = good[:1] + (((0,), (5,)),) + good[2:]
        self.assertIs(loop_paper_holds(inside, X6, told, (rows, over)), False)
        back = good[:1] + (((2,), (1,), (0,)),) + good[2:]
        self.assertIs(loop_paper_holds(inside, X6, told, (rows, back)), True)

    def test_ways_of_nothing_where_they_have_to_be(self):
        self.assertIs(self.with_way(4, ((0,), (2,), (5,))), False)
        self.assertIs(self.with_way(4, None), False)
        self.assertIs(self.with_way(5, ((5,),)), False)
        self.assertIs(self.with_way(5, None), False)

    def test_none_where_there_is_a_way(self):
        for at in range(4):
            self.assertIs(self.with_way(at, None), False)
        self.assertIs(self.maze((None,) * 4 + ((), ())), False)

    def test_none_where_the_row_has_not_endless_1(self):
        # The rows of a loop that ends are no endless ones, and endless rows are not joined right.
        told = table(program("x := 1", "x 2"))
        ended = (((N, A), N, N), ((N, A), N, N))
        self.assertIs(loop_paper_holds(X_IS_0, X, told, (ended, (((1,),), ()))), True)
        self.assertIs(loop_paper_holds(X_IS_0, X, told, (ended, (None, ()))), False)
        # Round for ever: other rows are joined right, too, but a way None wants endless 1.
        stay = table((X, SKIP))
        self.assertIs(loop_paper_holds(TRUE, X, stay, ((((N, N), N, A),) * 2, (None, None))), True)
        for row in (((A, N), N, N), ((N, N), A, N), ((N, N), H, H)):
            self.assertIs(loop_paper_holds(TRUE, X, stay, ((row, ((N, N), N, A)), (None, None))), False)
            self.assertIs(loop_paper_holds(TRUE, X, stay, ((row, ((N, N), N, A)), (((0,),), None))), False)

    def test_none_where_the_body_leads_to_a_state_with_a_way(self):
        # From 0 to 0 or 1, from 1 to 1 or for ever: rows of endless 1 are joined right all over.
        told = table(program("draw x from x weight 1, 1 weight 1; if (x is 1) then (draw x from 0 weight 1, 1 weight 1; "
                             "while (x is 0) do (skip)) else (skip)", "x 2"))
        rows = (((N, N), N, A),) * 2
        self.assertEqual(loop_paper(TRUE, X, told), (rows, ((), ())))
        told = (((H, H), N, N), ((N, H), N, H))
        self.assertEqual(loop_paper(TRUE, X, told), (rows, (((1,),), ())))
        self.assertIs(loop_paper_holds(TRUE, X, told, (rows, (((1,),), ()))), True)
        self.assertIs(loop_paper_holds(TRUE, X, told, (rows, (((0,), (0,), (1,)), ()))), True)
        self.assertIs(loop_paper_holds(TRUE, X, told, (rows, (None, ()))), False)

    def test_rows_exchanged_and_weights_moved(self):
        rows, ways = loop_paper(X_BELOW_2, X3, EXAMPLE)
        for others in ((rows[1], rows[0], rows[2]), (rows[2], rows[1], rows[0]), (rows[0], rows[2], rows[1]),
                       (((N, N, (1, 3)), N, (2, 3)), rows[1], rows[2]), (((N, N, H), H, N), rows[1], rows[2]),
                       (((N, H, N), N, H), rows[1], rows[2]), (rows[0], ((N, N, H), N, H), rows[2]),
                       (rows[0], rows[1], ((N, N, H), N, H)), EXAMPLE, (((N, N, A), N, N), rows[1], rows[2])):
            self.assertIs(loop_paper_holds(X_BELOW_2, X3, EXAMPLE, (others, ways)), False, others)

    def test_rows_without_the_condition_are_those_of_skip(self):
        told = table(program("x := (x + 1)", "x 3"))
        rows, ways = loop_paper(nots(1), X3, told)
        self.assertEqual(rows, table((X3, SKIP)))
        self.assertIs(loop_paper_holds(nots(1), X3, told, (rows, ways)), True)
        self.assertIs(loop_paper_holds(nots(1), X3, told, (told, ways)), False)
        self.assertIs(loop_paper_holds(nots(1), X3, told, ((NEVER,) * 3, ways)), False)

    def test_forms(self):
        rows, ways = PAPER
        for thing in ((rows,), (rows, ways, ways), (ways, rows), (rows, ways[:2]), (rows, ways + ((),)), (rows[:2], ways),
                      (rows, ((2,), None, ())), (rows, (((2, 0),), None, ())), (rows, (((3,),), None, ())), (rows, ((("2",),), None, ())),
                      (rows, ((((2,),),), None, ())), (rows, (((-1,),), None, ())), (rows, ((None,), None, ())), (rows, (True, None, ())),
                      (rows, (((2,),), False, ())), (rows, (((2,),), None, None)), (rows, None), (None, ways), nested(99),
                      (((((0, 2), N, H), N, H), rows[1], rows[2]), ways), (((((N, N, (2, 4)), N, H)), rows[1], rows[2]), ways)) + OTHERS:
            self.assertIs(loop_paper_holds(X_BELOW_2, X3, EXAMPLE, thing), False, thing)
        for variables in (X, XY):
            self.assertIs(loop_paper_holds(nots(1), X3, EXAMPLE, (table((variables, SKIP)), ((), (), ()))), False)
        self.assertIs(loop_paper_holds(nots(1), X3, EXAMPLE, (table((X3, SKIP)), ((), (), ()))), True)
        lists = list(changed(PAPER, other_sequence))
        self.assertGreater(len(lists), 20)
        for change in (other_sequence, as_truth, as_none):
            for thing in changed(PAPER, change):
                self.assertIs(loop_paper_holds(X_BELOW_2, X3, EXAMPLE, thing), False, thing)
        one = (rows[:1] + (((N, N, A), N, N),) * 2, (((1,),), ((2,),), ()))
        told = (((N, A, N), N, N), ((N, N, A), N, N), ((N, N, A), N, N))
        self.assertIs(loop_paper_holds(X_BELOW_2, X3, told, ((((N, N, A), N, N),) * 3, (((1,), (2,)), ((2,),), ()))), True)
        self.assertIs(loop_paper_holds(X_BELOW_2, X3, told, ((((N, N, A), N, N),) * 3, (((True,), (2,)), ((2,),), ()))), False)
        self.assertIs(loop_paper_holds(X_BELOW_2, X3, told, one), False)

    def test_each_way_by_what_is_told_of_it(self):
        found = [0, 0]
        for condition, variables, told in made_loops(60):
            rows, ways = loop_paper(condition, variables, told)
            states = states_of(variables)
            tried = [None, ()] + [(state,) for state in states] + [(one, other) for one in states[:3] for other in states]
            for at in range(len(states)):
                for way in tried:
                    paper = ways[:at] + (way,) + ways[at + 1:]
                    expected = self.is_right(condition, variables, told, rows, paper)
                    found[expected] += 1
                    self.assertIs(loop_paper_holds(condition, variables, told, (rows, paper)), expected)
        self.assertGreater(min(found), 100)

    def is_right(self, condition, variables, body, rows, ways):
        states = states_of(variables)
        hold = truths(condition, variables)
        for at, way in enumerate(ways):
            if not hold[at] or body[at][1] != N or body[at][2] != N:
                right = way == ()
            elif way is None:
                right = rows[at][2] == A and all(ways[to] is None for to in range(len(ways)) if body[at][0][to] != N)
            else:
                places = [states.index(state) for state in way]
                right = bool(places) and ways[places[-1]] == () and all(hold[place] for place in places[:-1]) and all(
                    body[one][0][other] != N for one, other in zip([at] + places, places))
            if not right:
                return False
        return True


class ErrorsTest(unittest.TestCase):
    calls = (loop_paper, lambda condition, variables, told: loop_paper_holds(condition, variables, told, None))

    def test_errors(self):
        stay = table((X, SKIP))
        for call in self.calls:
            for condition in OTHERS + (nots(10), ["true"], ONE, ("is", VY, ONE)):
                with self.assertRaises(BadCondition):
                    call(condition, X, stay)
            for variables in ((), list(X), (("x", 7),), (("x", True),), None):
                with self.assertRaises(BadVars):
                    call(TRUE, variables, stay)
            for thing in OTHERS + (EXAMPLE, stay[:1], list(stay), ((((2, 4), H), N, N), stay[1]), nested(99)):
                with self.assertRaises(BadTable):
                    call(TRUE, X, thing)

    def test_nothing_is_changed(self):
        before = frozen((EXAMPLE, PAPER))
        self.assertEqual(loop_paper(X_BELOW_2, X3, EXAMPLE), loop_paper(X_BELOW_2, X3, EXAMPLE))
        self.assertIs(loop_paper_holds(X_BELOW_2, X3, EXAMPLE, PAPER), True)
        self.assertEqual(frozen((EXAMPLE, PAPER)), before)


if __name__ == "__main__":
    unittest.main()
