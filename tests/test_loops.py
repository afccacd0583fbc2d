"""Loop papers from above and below, and ranks (14)."""

import unittest
from fractions import Fraction

from alikechances.errors import BadCondition, BadProgram, BadValues, HasChoices
from alikechances.loops import above_holds, above_paper, below_holds, below_paper, ends_surely, rank_paper
from alikechances.programs import states_of
from tests import reference
from tests.helpers import (
    CHOICE,
    COIN,
    OTHERS,
    SKIP,
    TRUE,
    X,
    X_IS_0,
    as_none,
    as_truth,
    changed,
    frozen,
    ifs,
    nested,
    nots,
    other_sequence,
    program,
    seq,
)

# From 0 to 0, 1, 2 or refused, from 1 for ever in itself, from 2 to 0 or 3, 3 and 4 without the condition.
WALK = program(
    "if (x is 0) then (draw x from 0 weight 1, 1 weight 1, 2 weight 1, 4 weight 1; see (x below 4)) else "
    "(if (x is 2) then (draw x from 0 weight 1, 3 weight 3) else (skip))", "x 5",
)
BELOW_3 = ("below", ("var", "x"), ("num", 3))
VALUES = ((5, 1), (7, 1), (9, 1), (8, 2), (2, 3))
EXACT = ((12, 11), (0, 1), (36, 11), (4, 1), (2, 3))
# From 0 to 1, from 1 to 2, from 2 out to 3 or back to 0.
STEPS = program("if (x is 2) then (draw x from 0 weight 1, 3 weight 1) else (x := (x + 1))", "x 4")
ONES = ((1, 1),) * 4


def with_part(values, at, worth):
    return values[:at] + (worth,) + values[at + 1:]


def exact_values(condition, body, values):
    """The values ahead of the while by the chain of the whole program."""
    lines = reference.table((body[0], ("while", condition, body[1])))
    return [sum(Fraction(*weight) * Fraction(*value) for weight, value in zip(line[0], values)) for line in lines]


def once_more(condition, body, values, paper):
    """What the paper has to be at least, or at most, state by state."""
    lines = reference.table(body)
    return [
        sum(Fraction(*weight) * Fraction(*worth) for weight, worth in zip(line[0], paper)) if truth else Fraction(*value)
        for line, truth, value in zip(lines, truths(condition, body[0]), values)
    ]


def truths(condition, variables):
    names = [name for name, _ in variables]
    return [reference.truth(condition, dict(zip(names, state))) for state in states_of(variables)]


def leads_down(condition, body, paper, ranks):
    hold = truths(condition, body[0])
    for at, (line, refused, _) in enumerate(reference.table(body)):
        if hold[at] and paper[at][0] > 0 and refused == (0, 1):
            if not any(weight[0] and (not hold[to] or ranks[to] < ranks[at]) for to, weight in enumerate(line)):
                return False
    return True


def made_loops(seeds):
    for seed in range(seeds):
        maker = reference.Maker(seed, most=9)
        body = maker.program(4)
        condition = maker.condition([name for name, _ in body[0]])
        values = tuple((maker.random.randint(0, 9), maker.random.randint(1, 4)) for _ in states_of(body[0]))
        yield maker.random, condition, body, values


class AbovePaperTest(unittest.TestCase):
    def test_it_is_behind_of_the_while(self):
        self.assertEqual(above_paper(X_IS_0, (X, COIN), ((3, 1), (10, 4))), ((5, 2), (5, 2)))
        self.assertEqual(above_paper(condition=BELOW_3, program=WALK, values=VALUES), EXACT)
        self.assertEqual(above_paper(TRUE, (X, COIN), ((3, 1), (5, 1))), ((0, 1), (0, 1)))
        self.assertEqual(above_paper(nots(1), (X, COIN), ((6, 4), (0, 7))), ((3, 2), (0, 1)))
        for _, condition, body, values in made_loops(60):
            found = above_paper(condition, body, values)
            self.assertEqual([Fraction(*value) for value in found], exact_values(condition, body, values))
            self.assertEqual(found, tuple(reference.pair(Fraction(*value)) for value in found))
            self.assertEqual(below_paper(condition, body, values)[0], found)

    def test_it_is_the_least_one(self):
        for random, condition, body, values in made_loops(60):
            found = above_paper(condition, body, values)
            self.assertIs(above_holds(condition, body, values, found), True)
            for at, (above, below) in enumerate(found):
                if above:
                    smaller = with_part(found, at, (above * 99, below * 100))
                    self.assertIs(above_holds(condition, body, values, smaller), False)

    def test_a_paper_bounds_the_while(self):
        held = 0
        for random, condition, body, values in made_loops(60):
            exact = exact_values(condition, body, values)
            for _ in range(6):
                paper = tuple((random.randint(0, 30), random.randint(1, 3)) for _ in values)
                expected = all(Fraction(*told) >= low for told, low in
                               zip(paper, once_more(condition, body, values, paper)))
                self.assertIs(above_holds(condition, body, values, paper), expected)
                if expected:
                    held += 1
                    self.assertTrue(all(Fraction(*told) >= low for told, low in zip(paper, exact)))
        self.assertGreater(held, 20)


class AboveHoldsTest(unittest.TestCase):
    def holds(self, thing):
        return above_holds(BELOW_3, WALK, VALUES, thing)

    def test_a_number_added_at_every_state_with_the_condition(self):
        for more in (Fraction(1), Fraction(1, 7), Fraction(50)):
            paper = tuple(reference.pair(Fraction(*value) + more) for value in EXACT[:3]) + EXACT[3:]
            self.assertIs(self.holds(paper), True)
        self.assertIs(self.holds(EXACT[:3] + ((5, 1), (1, 1))), False)
        self.assertIs(self.holds(((10, 1), (0, 1), (10, 1), (5, 1), (1, 1))), True)

    def test_not_in_lowest_terms(self):
        self.assertIs(self.holds(tuple((above * 6, below * 6) for above, below in EXACT)), True)
        self.assertIs(above_holds(BELOW_3, WALK, tuple((above * 4, below * 4) for above, below in VALUES), EXACT), True)
        self.assertIs(above_holds(condition=BELOW_3, program=WALK, values=VALUES, thing=EXACT), True)

    def test_one_value_too_small(self):
        for at, (above, below) in enumerate(EXACT):
            if above:
                self.assertIs(self.holds(with_part(EXACT, at, (above * 1000 - 1, below * 1000))), False, at)

    def test_the_value_counts_where_the_condition_does_not_hold_and_the_body_where_it_does(self):
        for at, worth in enumerate(((0, 1), (0, 1), (0, 1))):
            self.assertEqual(above_paper(BELOW_3, WALK, with_part(VALUES, at, worth)), EXACT)
        self.assertIs(above_holds(TRUE, WALK, VALUES, ((0, 1),) * 5), True)
        self.assertIs(above_holds(nots(1), WALK, VALUES, ((0, 1),) * 5), False)
        self.assertIs(above_holds(nots(1), WALK, VALUES, VALUES), True)

    def test_forms(self):
        zeros = ((0, 1),) * 5
        self.assertIs(above_holds(TRUE, WALK, VALUES, zeros), True)
        for thing in (((-1, 9),) + zeros[1:], zeros[1:], zeros + zeros[:1], list(zeros), zeros[:4] + ([0, 1],),
                      zeros[:4] + ((0, 0),), zeros[:4] + ((0, -1),), zeros[:4] + (0,), zeros[:4] + ((0, 1, 1),), (zeros, zeros),
                      (zeros,), zeros[:4] + (("0", 1),), nested(99)) + OTHERS:
            self.assertIs(above_holds(TRUE, WALK, VALUES, thing), False, thing)
        for change in (other_sequence, as_truth, as_none):
            for thing in changed(zeros, change):
                self.assertIs(above_holds(TRUE, WALK, VALUES, thing), False, thing)


class BelowPaperTest(unittest.TestCase):
    def test_what_is_returned_holds(self):
        for random, condition, body, values in made_loops(80):
            before = frozen((condition, body, values))
            paper, ranks = below_paper(condition, body, values)
            self.assertEqual([Fraction(*value) for value in paper], exact_values(condition, body, values))
            self.assertTrue(leads_down(condition, body, paper, ranks))
            self.assertTrue(all(isinstance(rank, int) and rank >= 0 for rank in ranks))
            self.assertIs(below_holds(condition, body, values, (paper, ranks)), True)
            self.assertEqual(frozen((condition, body, values)), before)
            for share in (Fraction(0), Fraction(1, 3), Fraction(6, 7), Fraction(1)):
                smaller = tuple(reference.pair(Fraction(*value) * share) for value in paper)
                self.assertIs(below_holds(condition, body, values, (smaller, ranks)), True)
        self.assertEqual(below_paper(condition=BELOW_3, program=WALK, values=VALUES)[0], EXACT)

    def test_a_paper_bounds_the_while(self):
        held = 0
        for random, condition, body, values in made_loops(60):
            exact = exact_values(condition, body, values)
            ranks = below_paper(condition, body, values)[1]
            for _ in range(12):
                paper = tuple(reference.pair(low * random.randint(0, 5) / 4) for low in exact)
                tried = tuple(random.choice((rank, rank, rank, 0, 1, 2)) for rank in ranks)
                bounded = all(Fraction(*told) <= high for told, high in
                              zip(paper, once_more(condition, body, values, paper)))
                expected = bounded and leads_down(condition, body, paper, tried)
                self.assertIs(below_holds(condition, body, values, (paper, tried)), expected)
                if expected:
                    held += 1
                    self.assertTrue(all(Fraction(*told) <= high for told, high in zip(paper, exact)))
        self.assertGreater(held, 40)


class BelowHoldsTest(unittest.TestCase):
    def steps(self, ranks, paper=ONES):
        return below_holds(("below", ("var", "x"), ("num", 3)), STEPS, ONES, (paper, ranks))

    def test_ranks_that_lead_down(self):
        self.assertIs(self.steps((2, 1, 0, 0)), True)
        self.assertIs(self.steps((9, 5, 2, 0)), True)
        self.assertIs(self.steps((2, 1, 0, 7)), True)
        self.assertIs(self.steps((1, 0, 0, 0)), False)
        self.assertIs(self.steps((1, 1, 0, 0)), False)
        self.assertIs(self.steps((0, 1, 0, 0)), False)
        self.assertIs(self.steps((3, 1, 2, 0)), False)
        self.assertIs(below_holds(condition=("below", ("var", "x"), ("num", 3)), program=STEPS, values=ONES,
                                  thing=(ONES, (2, 1, 0, 0))), True)

    def test_the_body_ends_only_in_states_of_the_same_or_a_greater_rank(self):
        stay = ((1, 1), (1, 1))
        for ranks in ((0, 0), (1, 0), (5, 9)):
            self.assertIs(below_holds(X_IS_0, (X, SKIP), stay, (stay, ranks)), False)
        turn = program("if (x is 0) then (x := 1) else (x := 0)", "x 2")
        for ranks in ((0, 0), (1, 0), (0, 1)):
            self.assertIs(below_holds(TRUE, turn, stay, (stay, ranks)), False)

    def test_out_of_the_loop_whatever_the_rank(self):
        values = ((0, 1), (3, 1))
        self.assertIs(below_holds(X_IS_0, program("x := 1", "x 2"), values, (((3, 1), (3, 1)), (0, 50))), True)

    def test_refused(self):
        body = program("if (x is 0) then (draw x from 0 weight 1, 1 weight 1; see (x is 0)) else (skip)", "x 2")
        values = ((0, 1), (0, 1))
        self.assertIs(below_holds(TRUE, body, values, (values, (0, 0))), True)
        half = (((1, 9), (0, 1)), (0, 0))
        self.assertIs(below_holds(TRUE, body, values, half), False)
        turning = program("draw x from 0 weight 2, 1 weight 1, 2 weight 1; see (x below 2); x := 0", "x 3")
        ends = program("if (x is 0) then (draw x from 0 weight 1, 1 weight 1, 2 weight 2; see (x below 2)) else (skip)", "x 3")
        self.assertIs(below_holds(X_IS_0, ends, ((0, 1), (3, 1), (0, 1)), (((1, 1), (3, 1), (0, 1)), (0, 4, 4))), True)
        self.assertIs(below_holds(X_IS_0, turning, ((0, 1),) * 3, (((0, 1),) * 3, (0, 0, 0))), True)

    def test_refused_alone_lets_the_rank_be(self):
        # From 0 the body stays or is refused: the rank of 0 is asked for nothing, but its value can be 0 alone.
        body = program("draw y from 0 weight 1, 1 weight 1; see (y is 0)", "x 2, y 2")
        many = (1, 1), (1, 1), (1, 1), (1, 1)
        zero = (0, 1), (0, 1), (1, 1), (1, 1)
        self.assertIs(below_holds(X_IS_0, body, many, (zero, (0, 0, 0, 0))), True)
        self.assertIs(below_holds(X_IS_0, body, many, (many, (0, 0, 0, 0))), False)

    def test_a_value_of_0_asks_nothing_of_the_rank(self):
        self.assertIs(self.steps((0, 0, 0, 0), ((0, 1), (0, 9), (1, 2), (1, 1))), True)
        self.assertIs(self.steps((0, 0, 0, 0), ((0, 1), (1, 9), (1, 2), (1, 1))), False)
        self.assertIs(self.steps((0, 1, 0, 0), ((0, 1), (1, 9), (1, 2), (1, 1))), True)

    def test_a_value_too_great(self):
        ranks = below_paper(BELOW_3, WALK, VALUES)[1]
        self.assertIs(below_holds(BELOW_3, WALK, VALUES, (EXACT, ranks)), True)
        for at, (above, below) in enumerate(EXACT):
            greater = with_part(EXACT, at, (above * 1000 + 1, below * 1000))
            self.assertIs(below_holds(BELOW_3, WALK, VALUES, (greater, (9, 9, 1, 0, 0))), False, at)
        self.assertIs(below_holds(BELOW_3, WALK, VALUES, (((0, 1),) * 3 + ((8, 2), (4, 6)), ranks)), True)

    def test_without_the_condition_the_value_is_the_bound(self):
        self.assertIs(below_holds(nots(1), WALK, VALUES, (VALUES, (0,) * 5)), True)
        self.assertIs(below_holds(nots(1), WALK, VALUES, (with_part(VALUES, 0, (51, 10)), (0,) * 5)), False)

    def test_forms(self):
        good = (((0, 1), (0, 1)), (0, 0))
        self.assertIs(below_holds(X_IS_0, (X, COIN), good[0], good), True)
        paper, ranks = good
        for thing in ((paper,), (paper, ranks, ranks), (paper, (0,)), (paper, (0, 0, 0)), (paper[:1], ranks),
                      (paper * 2, ranks), (paper, (-1, 0)), (paper, (0, -1)), (paper, (0, None)), (paper, ((0, 1), (0, 1))),
                      (((-1, 2), (0, 1)), ranks), paper, (ranks, paper), (((0, 0), (0, 1)), ranks), nested(99)) + OTHERS:
            self.assertIs(below_holds(X_IS_0, (X, COIN), paper, thing), False, thing)
        for change in (other_sequence, as_truth, as_none):
            for thing in changed(good, change):
                self.assertIs(below_holds(X_IS_0, (X, COIN), paper, thing), False, thing)
        self.assertIs(below_holds(X_IS_0, (X, COIN), paper, (paper, (1, True))), False)


class EndsSurelyTest(unittest.TestCase):
    def both(self, condition, body, expected):
        self.assertEqual(rank_paper(condition, body), expected)
        self.assertIs(ends_surely(condition, body), expected is not None)

    def test_loops_that_end(self):
        self.both(X_IS_0, program("draw x from 0 weight 1, 1 weight 1"), (1, 1, 0, 0))
        self.both(("below", ("var", "x"), ("num", 3)), STEPS, (3, 2, 1, 0))
        self.both(nots(1), (X, SKIP), (0, 0))
        self.assertIs(ends_surely(condition=X_IS_0, program=(X, COIN)), True)
        self.assertEqual(rank_paper(condition=X_IS_0, program=(X, COIN)), (1, 0))

    def test_loops_that_are_refused(self):
        self.both(TRUE, program("see (x is 1)", "x 2"), None)
        self.both(TRUE, program("draw x from 0 weight 1, 1 weight 1; see (x is 1)", "x 2"), (0, 0))
        self.both(TRUE, program("see (x is 1); x := 0", "x 2"), (0, 1))
        self.both(X_IS_0, program("see not true", "x 2"), (0, 0))

    def test_loops_that_never_end_from_some_states(self):
        self.both(X_IS_0, program("draw y from 0 weight 1, 1 weight 1"), None)
        self.both(("below", ("var", "x"), ("num", 2)), program("if (x is 1) then (x := 2) else (skip)", "x 3"), None)
        self.both(BELOW_3, WALK, None)
        self.both(TRUE, (X, SKIP), None)

    def test_loops_that_never_end_within_the_body(self):
        inner = "if (x is {}) then (while true do (skip)) else (x := 1)"
        self.both(X_IS_0, program(inner.format(0), "x 2"), None)
        self.both(X_IS_0, program(inner.format(1), "x 2"), (1, 0))
        never = program("draw y from 0 weight 1, 1 weight 1; if (y is 0) then (while true do (skip)) else (x := 1)")
        self.both(X_IS_0, never, None)
        self.both(nots(1), never, (0, 0, 0, 0))
        # The body never ends from 2, and the loop comes to 2 from 0.
        self.both(("below", ("var", "x"), ("num", 3)), program(
            "if (x is 2) then (while true do (skip)) else (if (x is 0) then (draw x from 1 weight 9, 2 weight 1) else (x := 3))",
            "x 4"), None)

    def test_bodies_of_sixty_statements_and_twelve_within_one_another(self):
        sixty = (X, ("seq", (SKIP,) * 59 + (COIN,)))
        self.both(X_IS_0, sixty, (1, 0))
        self.assertEqual(above_paper(X_IS_0, sixty, ((1, 1), (4, 1))), ((4, 1), (4, 1)))
        deep = (X, ifs(11, COIN))
        self.both(X_IS_0, deep, (1, 0))
        self.assertEqual(below_paper(X_IS_0, deep, ((1, 1), (4, 1)))[0], ((4, 1), (4, 1)))
        self.both(nots(8, X_IS_0), deep, (1, 0))
        self.both(nots(9), (X, COIN), (0, 0))
        self.assertIs(above_holds(X_IS_0, deep, ((1, 1), (4, 1)), ((4, 1), (4, 1))), True)
        self.assertIs(below_holds(X_IS_0, sixty, ((1, 1), (4, 1)), (((4, 1), (4, 1)), (0, 0))), True)
        with self.assertRaises(BadProgram):
            ends_surely(X_IS_0, (X, ("seq", (SKIP,) * 61)))
        with self.assertRaises(BadProgram):
            ends_surely(X_IS_0, (X, ifs(12, COIN)))
        with self.assertRaises(BadCondition):
            ends_surely(nots(10), (X, COIN))

    def test_against_the_chain_of_the_while(self):
        both = [0, 0]
        for _, condition, body, _ in made_loops(120):
            lines = reference.table((body[0], ("while", condition, body[1])))
            surely = all(endless == (0, 1) for _, _, endless in lines)
            both[surely] += 1
            self.assertIs(ends_surely(condition, body), surely)
            self.assertEqual(rank_paper(condition, body), self.ranks(condition, body) if surely else None)
        self.assertGreater(min(both), 20)

    def ranks(self, condition, body):
        """Each rank once more by what is told of it, from ranks that are too great for all."""
        hold = truths(condition, body[0])
        lines = reference.table(body)
        found = [0 if not truth or refused[0] else 99 for truth, (_, refused, _) in zip(hold, lines)]
        for _ in lines:
            found = [0 if not rank else 1 + min([found[to] for to, weight in enumerate(line) if weight[0]], default=99)
                     for rank, (line, _, _) in zip(found, lines)]
        return tuple(found)


class ErrorsTest(unittest.TestCase):
    good = ((1, 1), (2, 3))

    def calls(self, condition, body, values):
        return (
            lambda: above_paper(condition, body, values), lambda: above_holds(condition, body, values, values),
            lambda: below_paper(condition, body, values), lambda: below_holds(condition, body, values, values),
        )

    def test_bad_values(self):
        good = self.good
        for values in OTHERS + (good[:1], good + good[:1], list(good), ((-1, 1), (0, 1)), ((0, 1), (-1, 60)), ((1, 0), (1, 1)),
                                ((True, 1), (1, 1)), ((1, 1), [1, 1]), nested(99)):
            for call in self.calls(X_IS_0, (X, COIN), values):
                with self.assertRaises(BadValues):
                    call()

    def test_bad_conditions_and_programs(self):
        loops = (ends_surely, rank_paper)
        for condition in OTHERS + (nots(10), ["true"], ("num", 1), ("is", ("var", "y"), ("num", 0))):
            for call in self.calls(condition, (X, COIN), self.good) + tuple(
                    lambda function=function: function(condition, (X, COIN)) for function in loops):
                with self.assertRaises(BadCondition):
                    call()
        for body, error in (((X, CHOICE), HasChoices), ((X, ("while", X_IS_0, CHOICE)), HasChoices), ((X, seq(SKIP)), BadProgram),
                            (None, BadProgram), (nested(99), BadProgram)):
            for call in self.calls(X_IS_0, body, self.good) + tuple(
                    lambda function=function: function(X_IS_0, body) for function in loops):
                with self.assertRaises(error):
                    call()

    def test_things_are_looked_at_behind_all_else(self):
        for function in (above_holds, below_holds):
            with self.assertRaises(HasChoices):
                function(X_IS_0, (X, CHOICE), self.good, None)
            with self.assertRaises(BadValues):
                function(X_IS_0, (X, COIN), self.good[:1], None)


if __name__ == "__main__":
    unittest.main()
