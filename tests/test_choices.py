"""Ways of choosing (32), and what is sure and what it costs over all of them (35)."""

import unittest

from alikechances.choices import (
    best_cost,
    can,
    must,
    nth_way,
    some_way_surely,
    way_number,
    way_table,
    ways_many,
    worst_cost,
)
from alikechances.errors import BadCondition, BadNumber, BadProgram, BadState, BadWay, TooMany
from alikechances.programs import size_of, states_of
from alikechances.tables import table
from tests.helpers import (
    CHOICE,
    COIN,
    LOOP,
    OTHERS,
    SKIP,
    TRUE,
    X,
    X_IS_0,
    XY,
    as_none,
    as_truth,
    changed,
    other_sequence,
    program,
)
from tests.reference import Maker, line, pair
from tests.reference_choices import as_tuple, cost_by, rows_by, ways_of, weights_of

KINDS = ("skip", "set", "draw", "see", "if", "while", "choose", "choose", "seq")
NAMED = program(
    "choose x from 0, 1; if (x is 0) then (draw y from 0 weight 2, 1 weight 1) "
    "else (draw y from 0 weight 1, 1 weight 1; see (y is 1))"
)
NEVER = ("not", TRUE)


def made_up(many, most_ways=130, seed=0):
    """So many programs with chooses, with few ways, and a condition for each."""
    found = []
    while len(found) < many:
        seed += 1
        maker = Maker(seed, KINDS, most=4, sizes=(2, 2, 3, 4))
        before = maker.program()
        if len(states_of(before[0])) * size_of(before) <= 100 and 1 < ways_many(before) <= most_ways:
            found.append((before, maker.condition([name for name, _ in before[0]], 2)))
    return found


class WayTest(unittest.TestCase):
    def test_how_many(self):
        self.assertEqual(ways_many((X, COIN)), 1)
        self.assertEqual(ways_many((X, CHOICE)), 4)
        self.assertEqual(ways_many(NAMED), 16)
        self.assertEqual(ways_many(program("choose x from 0, 1, 0; choose y from 1", "x 2, y 3")), 3 ** 6)
        self.assertEqual(ways_many(program("while true do (choose x from 0, 1; choose x from 0, 1, 2)", "x 3")), 8 * 27)
        great = (X, ("seq", (("choose", "x", (("num", 0),) * 6),) * 60))
        self.assertEqual(ways_many(great), 6 ** 120)
        self.assertEqual(way_number(great, nth_way(great, 6 ** 120 - 7)), 6 ** 120 - 7)

    def test_the_first_and_the_last(self):
        before = program("choose x from 0, 1; if (x is 0) then (choose x from 0, 1, 0) else (skip)", "x 2")
        first = ((0, (0,), 0), (0, (1,), 0), (1, (0,), 0), (1, (1,), 0))
        last = ((0, (0,), 1), (0, (1,), 1), (1, (0,), 2), (1, (1,), 2))
        self.assertEqual(nth_way(before, 0), first)
        self.assertEqual(nth_way(before, 35), last)
        self.assertEqual([way_number(before, way) for way in (first, last)], [0, 35])
        self.assertEqual(nth_way(before, 1), (*first[:3], (1, (1,), 1)))
        self.assertEqual(nth_way((X, COIN), 0), ())
        self.assertEqual(way_number((X, COIN), ()), 0)

    def test_all_ascending(self):
        before = program("while (x is 0) do (choose x from 0, 1, y; choose y from 0)")
        ways = [nth_way(before, number) for number in range(ways_many(before))]
        self.assertEqual(ways, sorted(ways))
        self.assertEqual(ways, [as_tuple(way) for way in ways_of(before)])
        self.assertEqual([way_number(before, way) for way in ways], list(range(81)))

    def test_numbers_that_are_none(self):
        for number in (-1, 4, 10 ** 30, True, False, None, "0", (0,), (1, 1), [1]):
            with self.assertRaises(BadNumber):
                nth_way((X, CHOICE), number)
        with self.assertRaises(BadNumber):
            nth_way((X, COIN), 1)

    def test_ways_that_are_none(self):
        before = program("choose x from 0, 1; choose x from 0, 1, 0", "x 2")
        good = ((0, (0,), 1), (0, (1,), 0), (1, (0,), 2), (1, (1,), 1))
        self.assertEqual(way_number(before, good), 25)
        wrong = [
            good[:3], (*good, good[3]), (*good, (2, (0,), 0)), (good[1], good[0], *good[2:]), good[::-1], list(good), (),
            ((0, (0,), 2), *good[1:]), ((0, (0,), -1), *good[1:]), ((0, (0,), True), *good[1:]),
            ((False, (0,), 1), *good[1:]), ((0, (False,), 1), *good[1:]), ([0, (0,), 1], *good[1:]),
            ((0, [0], 1), *good[1:]), ((0, (0, 0), 1), *good[1:]), ((0, (2,), 1), *good[1:]), ((0, (0,)), *good[1:]),
            ((0, (0,), 1, 0), *good[1:]), (*good[:3], (1, (1,), 3)), (*good[:2], (2, (0,), 2), (2, (1,), 1)),
        ]
        for change in (other_sequence, as_none, as_truth):
            wrong.extend(changed(good, change))
        for thing in (*wrong, *OTHERS):
            for function in (way_number, way_table):
                with self.assertRaises(BadWay):
                    function(before, thing)
        with self.assertRaises(BadWay):
            way_table((X, COIN), None)
        with self.assertRaises(BadProgram):
            way_table((X, ()), ())

    def test_tables(self):
        before = program("choose x from 0, 1; draw x from x weight 2, 0 weight 1", "x 2")
        for numbers, wanted in (((0, 0), "x := 0"), ((1, 1), "draw x from 1 weight 2, 0 weight 1"),
                                ((0, 1), "if (x is 0) then (x := 0) else (draw x from 1 weight 2, 0 weight 1)")):
            way = tuple((0, (value,), number) for value, number in enumerate(numbers))
            self.assertEqual(way_table(before, way), table(program(wanted, "x 2")))
        self.assertEqual(way_table((X, LOOP), ()), table((X, LOOP)))
        before = program("draw x from 0 weight 1, 1 weight 1, 2 weight 1; see (x below 2); while (x is 1) do (skip); choose x from 1, 2", "x 3")
        line = (((0, 1), (1, 3), (0, 1)), (1, 3), (1, 3))
        self.assertEqual(way_table(before, nth_way(before, 0)), (line,) * 3)

    def test_a_choose_within_a_loop(self):
        before = program("while (x is 0) do (choose x from 0, 1; draw x from x weight 1, 1 weight 1)", "x 2")
        stay, go = [((0, (0,), number), (0, (1,), 0)) for number in (0, 1)]
        self.assertEqual(way_table(before, go), table(program("x := 1", "x 2")))
        self.assertEqual(way_table(before, stay), table(program("x := 1", "x 2")))
        before = program("while (x is 0) do (choose x from 0, 1)", "x 2")
        self.assertEqual(way_table(before, stay), table(program("while (x is 0) do (skip)", "x 2")))
        self.assertEqual(way_table(before, go), table(program("x := 1", "x 2")))

    def test_against_a_chain_of_each_way(self):
        for before, _ in made_up(15, 30):
            states = states_of(before[0])
            for number, way in enumerate(ways_of(before)):
                rows = rows_by(before, way)
                self.assertEqual(way_number(before, as_tuple(way)), number)
                self.assertEqual(way_table(before, as_tuple(way)), tuple(line(states, rows[state]) for state in states))

    def test_never_too_many(self):
        crowd = (X, ("seq", (CHOICE, LOOP) * 20))
        way = nth_way(crowd, 2 ** 40 - 1)
        self.assertEqual(way_number(crowd, way), 2 ** 40 - 1)
        self.assertEqual(way_table(crowd, way), table(program("x := 1", "x 2")))


class SureTest(unittest.TestCase):
    def told(self, text, condition, variables="x 2"):
        """can, must and some_way_surely, each as the list of the values of the first variable."""
        before = program(text, variables)
        return [[state[0] for state in function(before, condition)] for function in (can, must, some_way_surely)]

    def test_chooses(self):
        self.assertEqual(self.told("choose x from 0, 1", X_IS_0), [[0, 1], [], [0, 1]])
        self.assertEqual(self.told("choose x from 0, 2, x", X_IS_0), [[0, 1], [0], [0, 1]])
        self.assertEqual(self.told("if (x is 0) then (choose x from 1, 3) else (skip)", X_IS_0), [[], [], []])
        self.assertEqual(self.told("x := 0", X_IS_0), [[0, 1]] * 3)

    def test_draws(self):
        self.assertEqual(self.told("draw x from 0 weight 1, 1 weight 1", X_IS_0), [[0, 1], [], []])
        self.assertEqual(self.told("draw x from 0 weight 1, 1 weight 1; choose x from 0, x", X_IS_0), [[0, 1], [], [0, 1]])

    def test_what_is_refused(self):
        self.assertEqual(self.told("see (x is 0)", X_IS_0), [[0], [0], [0]])
        self.assertEqual(self.told("draw x from 0 weight 1, 1 weight 1; see (x is 0)", X_IS_0), [[0, 1]] * 3)
        # By some way all is refused: no way has to let something by, some may.
        self.assertEqual(self.told("choose x from 0, 1; see (x is 0)", X_IS_0), [[0, 1], [], [0, 1]])
        self.assertEqual(self.told("choose x from 0, 1; see (x is 0)", NEVER), [[], [], []])
        self.assertEqual(self.told("see not true", TRUE), [[], [], []])
        self.assertEqual(self.told("draw x from 0 weight 1, 1 weight 1; see (x is 1); choose x from 0, 1; see (x is 1)",
                                   TRUE), [[0, 1], [], [0, 1]])

    def test_what_never_ends(self):
        self.assertEqual(self.told("while (x is 0) do (choose x from 0, 1)", TRUE), [[0, 1], [1], [0, 1]])
        self.assertEqual(self.told("while (x is 0) do (draw x from 0 weight 1, 1 weight 1)", TRUE), [[0, 1]] * 3)
        self.assertEqual(self.told("while (x is 0) do (skip)", TRUE), [[1]] * 3)
        self.assertEqual(self.told("while (x is 0) do (choose x from 0, 1; see (x is 0))", TRUE), [[1]] * 3)
        text = "while (x below 2) do (choose y from 0, 1; if (y is 0) then (draw x from 0 weight 1, 2 weight 1) " \
               "else (draw x from 1 weight 1, 3 weight 1); while (x is 1) do (skip))"
        self.assertEqual(self.told(text, ("is", ("var", "x"), ("num", 3)), "x 4, y 2")[2], [3, 3])
        self.assertEqual(self.told(text, ("is", ("var", "x"), ("num", 2)), "x 4, y 2")[2], [0, 0, 1, 1, 2, 2])

    def test_a_way_that_could_still_go_wrong_is_not_taken(self):
        text = "while (x is 0) do (choose x from 0, 1, 2; if (x is 0) then (draw x from 0 weight 1, 3 weight 1) " \
               "else (if (x is 1) then (see not true) else (skip)))"
        self.assertEqual(self.told(text, ("is", ("var", "x"), ("num", 3)), "x 4")[0], [0, 3])
        self.assertEqual(self.told(text, ("is", ("var", "x"), ("num", 3)), "x 4")[2], [0, 3])
        self.assertEqual(self.told(text, ("is", ("var", "x"), ("num", 2)), "x 4")[2], [0, 2])

    def test_against_all_ways(self):
        seen = set()
        for before, condition in made_up(40, 80):
            states = states_of(before[0])
            weights = [[weights_of(before, rows_by(before, way)[state], condition) for state in states]
                       for way in ways_of(before)]
            some, every, sure = [], [], []
            for at, state in enumerate(states):
                told = [row[at] for row in weights]
                fine = [ended + endless > 0 and good == ended + endless for good, ended, endless in told]
                if any(good for good, _, _ in told):
                    some.append(state)
                if all(fine):
                    every.append(state)
                if any(fine):
                    sure.append(state)
            self.assertEqual(can(before, condition), some)
            self.assertEqual(must(before, condition), every)
            self.assertEqual(some_way_surely(before, condition), sure)
            seen.add((some == sure, every == sure))
        self.assertGreaterEqual(len(seen), 3)

    def test_too_many(self):
        for function in (can, must, some_way_surely):
            self.bounds(lambda before: function(before, X_IS_0))
            with self.assertRaises(BadCondition):
                function((X, ("seq", (LOOP,) * 30)), ("is", ("var", "y"), ("num", 0)))

    def bounds(self, function):
        """Not at two hundred, above it, and with a while not at one hundred, above it."""
        eights = (("x", 2), ("y", 2), ("z", 2))
        function((eights, ("seq", (CHOICE,) * 25)))
        function((eights, ("seq", (COIN,) * 25)))
        function((XY, ("seq", (LOOP,) + (CHOICE,) * 23)))
        for statement in (("seq", (CHOICE,) * 26), ("seq", (SKIP,) * 26), ("seq", (SKIP,) * 11 + (LOOP,)),
                          ("seq", (SKIP,) * 10 + (("if", TRUE, LOOP, SKIP),))):
            with self.assertRaises(TooMany):
                function((eights, statement))
        with self.assertRaises(TooMany):
            function((XY, ("seq", (LOOP,) + (CHOICE,) * 24)))

    def test_too_many_of_costs(self):
        for function in (worst_cost, best_cost):
            self.bounds(lambda before: function(before, (0,) * len(before[0])))
            with self.assertRaises(BadState):
                function((X, ("seq", (LOOP,) * 30)), (2,))


class CostTest(unittest.TestCase):
    def told(self, text, variables="x 2"):
        before = program(text, variables)
        return [[function(before, state) for state in states_of(before[0])] for function in (worst_cost, best_cost)]

    def test_a_choose_counts_as_a_set(self):
        self.assertEqual(self.told("choose x from 0, 1"), [[(1, 1)] * 2] * 2)
        self.assertEqual(self.told("choose x from 0, 1; if (x is 0) then (skip) else (x := 0; x := 1)"),
                         [[(4, 1)] * 2, [(2, 1)] * 2])
        self.assertEqual(self.told("choose x from 0, 1; see (x is 0); x := 1"), [[(3, 1)] * 2, [(2, 1)] * 2])
        self.assertEqual(self.told("while (x is 0) do (choose x from 1, 2)", "x 3"), [[(3, 1), (1, 1), (1, 1)]] * 2)

    def test_without_end_by_some_way(self):
        self.assertEqual(self.told("while (x is 0) do (choose x from 0, 1)"), [[None, (1, 1)], [(3, 1), (1, 1)]])
        self.assertEqual(self.told("while (x is 0) do (skip)"), [[None, (1, 1)], [None, (1, 1)]])
        self.assertEqual(self.told("choose x from 0, 1; while (x is 0) do (choose x from 0)"),
                         [[None, None], [(2, 1), (2, 1)]])
        self.assertEqual(self.told("while (x is 0) do (choose y from 0, 1; if (y is 0) then (draw x from 0 weight 9, 1 weight 1)"
                                   " else (x := 1; x := 0; x := 1))", "x 2, y 2")[1][0], (7, 1))

    def test_values_that_lead_to_what_never_ends(self):
        for values, wanted in (("1, 0", 2), ("0, 1", 2), ("2, 1, 0", 2), ("0, 2, 1", 2), ("2, 0", 4), ("0, 2", 4), ("2, 0, 2", 4)):
            text = f"choose x from {values}; while (x is 0) do (skip); while (x is 2) do (x := 1)"
            found = self.told(text, "x 3")
            self.assertEqual(found, [[None] * 3, [(wanted + 1, 1)] * 3])

    def test_against_all_ways(self):
        mixed = 0
        for before, _ in made_up(40, 40, 500):
            for state in states_of(before[0]):
                told = [cost_by(before, way, state) for way in ways_of(before)]
                ending = [found for found in told if found is not None]
                mixed += 0 < len(ending) < len(told)
                self.assertEqual(worst_cost(before, state), None if None in told else pair(max(told)))
                self.assertEqual(best_cost(before, state), pair(min(ending)) if ending else None)
        self.assertGreater(mixed, 3)

    def test_wrong_states(self):
        for function in (worst_cost, best_cost):
            for state in (None, [0], (True,), (2,), (0, 0), ()):
                with self.assertRaises(BadState):
                    function((X, CHOICE), state)


if __name__ == "__main__":
    unittest.main()
