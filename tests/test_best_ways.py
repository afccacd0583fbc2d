"""The greatest and the least chance over all ways of choosing (33), and bound papers (34)."""

import unittest
from fractions import Fraction

from alikechances.ahead import chance
from alikechances.choices import (
    best_cost,
    bound_holds,
    bound_paper,
    can,
    greatest,
    greatest_way,
    least,
    least_way,
    must,
    nth_way,
    way_holds,
    way_table,
    ways_many,
    worst_cost,
)
from alikechances.errors import BadCondition, BadFraction, BadProgram, BadShares, TooMany
from alikechances.programs import size_of, states_of
from tests.helpers import (
    CHOICE,
    COIN,
    LOOP,
    OTHERS,
    SKIP,
    TRUE,
    X,
    X_IS_0,
    XY,
    as_none,
    changed,
    other_sequence,
    program,
)
from tests.reference import Maker, pair
from tests.reference_choices import as_tuple, rows_by, ways_of, weights_of
from tests.test_choices import made_up

FIRST = [((0,), (1, 1))]
BOTH = [((0,), (1, 1)), ((1,), (1, 1))]
THERE = ("is", ("var", "y"), ("num", 0))
NEVER = ("not", TRUE)
BESTS = (greatest, least, greatest_way, least_way, bound_paper)


def seeing(before):
    """A program with a see at its end."""
    parts = before[1][1] if before[1][0] == "seq" else (before[1],)
    return (before[0], ("seq", (*parts, ("see", X_IS_0))))


class BestTest(unittest.TestCase):
    def told(self, text, shares=None, condition=X_IS_0, variables="x 2"):
        before = program(text, variables)
        shares = shares or [((0,) * len(before[0]), (1, 1))]
        return greatest(before, shares, condition), least(before, shares, condition)

    def test_without_a_choose_it_is_the_chance(self):
        for text in ("draw x from 0 weight 1, 1 weight 2", "while (x is 0) do (draw x from 0 weight 1, 1 weight 1; see (x is 0))",
                     "draw x from 0 weight 2, 1 weight 5; while (x is 1) do (skip)", "see (x is 1)"):
            before = program(text, "x 2")
            for shares in (FIRST, BOTH, [((0,), (3, 7)), ((1,), (4, 2))]):
                self.assertEqual(self.told(text, shares), (chance(before, shares, X_IS_0),) * 2)
        self.assertEqual(greatest_way((X, COIN), BOTH, X_IS_0), ())
        self.assertEqual(least_way((X, COIN), BOTH, X_IS_0), ())

    def test_chooses(self):
        self.assertEqual(self.told("choose x from 0, 1"), ((1, 1), (0, 1)))
        self.assertEqual(self.told("choose x from 1, 3"), ((0, 1), (0, 1)))
        self.assertEqual(self.told("choose x from 0, 1; draw x from x weight 2, 0 weight 1"), ((1, 1), (1, 3)))
        self.assertEqual(self.told("draw x from 0 weight 1, 1 weight 1; choose x from x, 1"), ((1, 2), (0, 1)))

    def test_the_example(self):
        before = program("choose x from 0, 1; if (x is 0) then (draw y from 0 weight 2, 1 weight 1) "
                         "else (draw y from 0 weight 1, 1 weight 1; see (y is 1))")
        shares = [((0, 0), (1, 1))]
        asked = ("is", ("var", "y"), ("num", 1))
        self.assertEqual(greatest(before, shares, asked), (1, 1))
        self.assertEqual(least(before, shares, asked), (1, 3))
        self.assertEqual(ways_many(before), 16)
        self.assertIs(bound_holds(before, shares, asked, (1, 1), bound_paper(before, shares, asked)), True)

    def test_seen_things_that_refuse(self):
        # To be refused more often can make the chance of what is let by greater.
        text = "draw x from 0 weight 1, 1 weight 3; draw y from 0 weight 1, 1 weight 1; " \
               "if (x is 1) then (choose y from y, 0; see (y is 1)) else (choose y from y, 0; see (y is 0))"
        self.assertEqual(self.told(text, variables="x 2, y 2"), ((1, 1), (1, 4)))
        text = "draw x from 0 weight 1, 1 weight 1; choose y from 0, 1; if (y is x) then (skip) else (see (x is 0))"
        self.assertEqual(self.told(text, variables="x 2, y 2"), ((1, 1), (1, 2)))

    def test_ways_that_let_nothing_by_are_left_out(self):
        self.assertEqual(self.told("choose x from 0, 1; see (x is 1)"), ((0, 1), (0, 1)))
        self.assertEqual(self.told("choose x from 0, 1; see (x is 0)"), ((1, 1), (1, 1)))
        before = program("choose x from 0, 1; see (x is 1)", "x 2")
        for function in (greatest_way, least_way):
            self.assertEqual(function(before, FIRST, X_IS_0)[0], (0, (0,), 1))

    def test_none_where_no_way_lets_anything_by(self):
        for text in ("see not true", "choose x from 0, 1; see (x is 2)", "see (x is 1); choose x from 0, 1",
                     "see not true; while true do (choose x from 0, 1)"):
            before = program(text, "x 2")
            self.assertEqual([function(before, FIRST, TRUE) for function in BESTS], [None] * 5)
            for number in range(ways_many(before)):
                self.assertIs(way_holds(before, FIRST, TRUE, (0, 1), nth_way(before, number)), False)

    def test_one_way_for_all_shares_together(self):
        text = "choose y from 0, 1; if (y is 0) then (x := x) else (x := (1 - x))"
        shares = [((0, 0), (2, 1)), ((1, 0), (1, 1))]
        self.assertEqual(self.told(text, shares, variables="x 2, y 2"), ((1, 1), (0, 1)))
        # From both states y is chosen in the same state: the one choice is good for one of them alone.
        text = "z := x; x := 0; choose y from 0, 1; see not (z is 2); if (y is z) then (x := 0) else (x := 1)"
        shares = [((0, 0, 0), (2, 1)), ((1, 0, 0), (2, 2))]
        self.assertEqual(self.told(text, shares, variables="x 2, y 2, z 2"), ((1, 1), (0, 1)))
        text = "y := 0; z := 0; choose z from 0, 1; if (z is x) then (y := 1) else (skip); x := y"
        shares = [((0, 0, 0), (2, 1)), ((1, 0, 0), (1, 1))]
        self.assertEqual(self.told(text, shares, variables="x 2, y 2, z 2"), ((1, 1), (0, 1)))

    def test_endless_counts_as_let_by(self):
        self.assertEqual(self.told("draw x from 0 weight 1, 1 weight 1; while (x is 1) do (choose x from 1, 0)"), ((1, 1), (1, 2)))
        self.assertEqual(self.told("while (x is 0) do (choose x from 0, 1, 2); see (x is 1)", condition=TRUE, variables="x 3"),
                         ((1, 1), (0, 1)))
        # To go on for ever is no gain for the greatest, but the least is made by it alone.
        self.assertEqual(self.told("while (x is 0) do (choose y from 0, 1; if (y is 0) then (skip) else (x := 1))",
                                   condition=("is", ("var", "x"), ("num", 1)), variables="x 2, y 2"), ((1, 1), (0, 1)))
        self.assertEqual(self.told("while (x is 0) do (choose x from 0, 1); see (x is 0)", condition=TRUE), ((0, 1), (0, 1)))

    def test_shares_need_not_be_in_lowest_terms_or_together_one(self):
        before = program("choose y from 0, 1; draw x from x weight 1, y weight 1")
        shares = [((0, 0), (4, 6)), ((1, 1), (20, 10))]
        same = [((0, 0), (1, 3)), ((1, 1), (1, 1))]
        for function in BESTS:
            self.assertEqual(function(before, shares, X_IS_0), function(before, same, X_IS_0))
        self.assertEqual(greatest(before, shares, X_IS_0), (5, 8))

    def test_against_all_ways(self):
        seen = {"mixed": 0, "none": 0, "unlike": 0}
        tried = made_up(50, 70)
        tried += [(seeing(before), condition) for before, condition in tried]
        for seed, (before, condition) in enumerate(tried):
            made = Maker(seed)
            shares = [(state, (made.random.randint(1, 4), made.random.randint(1, 3)))
                      for state in states_of(before[0]) if made.random.random() < 0.6]
            shares = shares or [(states_of(before[0])[0], (1, 1))]
            told = {as_tuple(way): self.chance(before, rows_by(before, way), shares, condition)
                    for way in ways_of(before)}
            found = {value for value in told.values() if value is not None}
            seen["mixed"] += bool(found) and None in told.values()
            seen["none"] += not found
            seen["unlike"] += len(found) > 1
            self.judge(before, shares, condition, told, found)
        self.assertGreater(min(seen.values()), 0, seen)

    def chance(self, before, rows, shares, condition):
        good = let_by = 0
        for state, share in shares:
            one, ended, endless = weights_of(before, rows[state], condition)
            good += Fraction(*share) * one
            let_by += Fraction(*share) * (ended + endless)
        return good / let_by if let_by else None

    def judge(self, before, shares, condition, told, found):
        for way, value in told.items():
            right = value is not None
            self.assertIs(way_holds(before, shares, condition, pair(value or 0), way), right)
            self.assertIs(way_holds(before, shares, condition, pair((value or 0) + Fraction(1, 7)), way), False)
        if not found:
            self.assertEqual([function(before, shares, condition) for function in BESTS], [None] * 5)
            return
        self.assertEqual(greatest(before, shares, condition), pair(max(found)))
        self.assertEqual(least(before, shares, condition), pair(min(found)))
        self.assertEqual(told[greatest_way(before, shares, condition)], max(found))
        self.assertEqual(told[least_way(before, shares, condition)], min(found))
        paper = bound_paper(before, shares, condition)
        for more, right in ((0, True), (Fraction(1, 9), True), (2, True), (Fraction(-1, 9), False), (-3, False)):
            self.assertIs(bound_holds(before, shares, condition, pair(max(found) + more), paper), right)

    def test_too_many(self):
        eights = (("x", 2), ("y", 2), ("z", 2))
        shares, two = [((0, 0, 0), (1, 1))], [((0, 0), (1, 1))]
        for function in (*BESTS, self.way_holds, self.bound_holds):
            function((eights, ("seq", (CHOICE,) * 25)), shares, X_IS_0)
            function((XY, ("seq", (LOOP,) + (CHOICE,) * 23)), two, X_IS_0)
            for variables, statement, begun in (
                (eights, ("seq", (CHOICE,) * 26), shares), (eights, ("seq", (SKIP,) * 26), shares),
                (XY, ("seq", (LOOP,) + (CHOICE,) * 24), two), (XY, ("seq", (SKIP,) * 23 + (("if", TRUE, LOOP, SKIP),)), two),
                (X, ("seq", (SKIP,) * 48 + (LOOP, SKIP)), FIRST),
            ):
                with self.assertRaises(TooMany):
                    function((variables, statement), begun, X_IS_0)
                with self.assertRaises(BadCondition):
                    function((variables, statement), begun, ("is", ("var", "w"), ("num", 0)))
                with self.assertRaises(BadShares):
                    function((variables, statement), [((0,) * 4, (1, 1))], ("is", ("var", "w"), ("num", 0)))
            function((X, ("seq", (SKIP,) * 48 + (LOOP,))), FIRST, X_IS_0)

    def way_holds(self, before, shares, condition):
        for thing in (None, (), nth_way(before, 0)):
            way_holds(before, shares, condition, (1, 2), thing)

    def bound_holds(self, before, shares, condition):
        for thing in (None, ()):
            bound_holds(before, shares, condition, (1, 2), thing)


class WayHoldsTest(unittest.TestCase):
    def setUp(self):
        self.before = program("choose x from 0, 1; draw x from x weight 2, 0 weight 1", "x 2")
        self.way = ((0, (0,), 1), (0, (1,), 0))

    def test_fractions(self):
        for fraction, right in (((1, 3), True), ((2, 6), True), ((10, 30), True), ((2, 3), False), ((1, 1), False),
                                ((-1, 3), False), ((0, 1), False), ((1, 10 ** 30), False)):
            self.assertIs(way_holds(self.before, FIRST, X_IS_0, fraction, self.way), right)
        self.assertIs(way_holds(self.before, BOTH, X_IS_0, (4, 6), self.way), True)
        self.assertEqual(way_table(self.before, self.way)[0][0][0], (1, 3))

    def test_any_object(self):
        for thing in (*OTHERS, *changed(self.way, other_sequence), *changed(self.way, as_none), (self.way,), self.way[::-1]):
            self.assertIs(way_holds(self.before, FIRST, X_IS_0, (1, 3), thing), False)
        self.assertIs(way_holds((X, COIN), FIRST, X_IS_0, (1, 2), ()), True)

    def test_wrong_things(self):
        for fraction in (None, 1, (1,), (1, 0), (1, -2), [1, 3], (True, 1), (1, True), (1, 2, 3), (0.5, 1)):
            with self.assertRaises(BadFraction):
                way_holds(self.before, FIRST, THERE, fraction, self.way)
            with self.assertRaises(BadFraction):
                bound_holds(self.before, FIRST, THERE, fraction, None)
        for function in (way_holds, bound_holds):
            with self.assertRaises(BadCondition):
                function(self.before, FIRST, THERE, (1, 2), None)
            with self.assertRaises(BadProgram):
                function(None, None, None, None, None)
            with self.assertRaises(BadShares):
                function(self.before, None, None, None, None)
            with self.assertRaises(BadCondition):
                function(self.before, FIRST, None, None, None)


class BoundTest(unittest.TestCase):
    """Bound papers that are as small as can be, and what is wrong with smaller ones."""

    def each_less(self, before, shares, condition, fraction, paper, loose=()):
        """Each value of a paper, made a little less, is too small, but those at loose (place, number of the state)."""
        self.assertIs(bound_holds(before, shares, condition, fraction, paper), True)
        for place, values in enumerate(paper):
            for at, (above, below) in enumerate(values):
                less = [list(row) for row in paper]
                less[place][at] = (above * 1000 - 1, below * 1000)
                wanted = (place, at) in loose
                found = bound_holds(before, shares, condition, fraction, tuple(tuple(row) for row in less))
                self.assertIs(found, wanted, (place, at))

    def test_each_kind_of_statement(self):
        shares = [((0, 0), (1, 1))]
        texts = (
            "skip; x := (1 - y)", "x := 1; y := x", "draw x from 0 weight 1, y weight 2; skip", "choose x from 0, 1, y; y := 0",
            "see (y is x); skip", "if (x is y) then (x := 1) else (y := 1); x := y",
            "while (x is 0) do (choose x from 0, 1; draw y from 0 weight 1, 1 weight 1); y := x",
            "choose x from 0, 1; while (x is 0) do (if (y is 0) then (choose y from 1, 0) else (choose x from 0, 1))",
        )
        for text in texts:
            before = program(text)
            for condition in (X_IS_0, THERE, ("not", X_IS_0)):
                found = greatest(before, shares, condition)
                paper = bound_paper(before, shares, condition)
                self.assertEqual(len(paper), size_of(before) + 1)
                self.assertEqual([len(values) for values in paper], [4] * len(paper))
                self.each_less(before, shares, condition, found, paper)
                self.assertEqual(paper[-1], tuple(
                    pair((1 if truth else 0) - Fraction(*found)) for truth in self.truths(condition)
                ))

    def truths(self, condition):
        whole = program("see (x is x)")
        return [chance(whole, [(state, (1, 1))], condition) == (1, 1) for state in states_of(XY)]

    def test_values_by_hand(self):
        before = program("see (x is 0); choose x from 0, 1; draw x from x weight 1, 0 weight 1", "x 2")
        half = (-1, 2)
        paper = (((0, 1), (0, 1)), ((1, 2), (1, 2)), ((1, 2), (0, 1)), ((1, 2), half))
        self.assertIs(bound_holds(before, FIRST, X_IS_0, (1, 2), paper), False)
        paper = (((1, 2), (0, 1)), *paper[1:])
        self.assertIs(bound_holds(before, FIRST, X_IS_0, (1, 2), paper), False, "the sum is above 0")
        self.assertIs(bound_holds(before, [((1,), (1, 1))], X_IS_0, (1, 2), paper), True)
        certain = (((0, 1), (0, 1)), ((0, 1), (0, 1)), ((0, 1), half), ((0, 1), (-1, 1)))
        self.assertEqual(bound_paper(before, FIRST, X_IS_0), certain)
        self.each_less(before, FIRST, X_IS_0, (1, 1), certain)

    def test_a_sum_above_0(self):
        before = program("draw x from 0 weight 1, x weight 1", "x 2")
        paper = (((1, 4), (-1, 4)), ((1, 4), (-3, 4)))
        for shares, right in ((BOTH, True), ([((0,), (2, 1)), ((1,), (2, 1))], True), (FIRST, False),
                              ([((0,), (10 ** 9 + 1, 1)), ((1,), (10 ** 9, 1))], False), ([((0,), (1, 3)), ((1,), (2, 5))], True)):
            self.assertIs(bound_holds(before, shares, X_IS_0, (3, 4), paper), right)

    def test_fractions_of_any_sign(self):
        before = program("while (x is 0) do (choose x from 0, 1)", "x 2")
        asked = ("not", X_IS_0)
        for fraction, paper, right in (
            ((2, 1), (((-1, 1), (-1, 1)), ((-1, 1), (-1, 1)), ((-2, 1), (-1, 1))), True),
            ((3, 1), (((-2, 1), (-2, 1)), ((-2, 1), (-2, 1)), ((-3, 1), (-2, 1))), True),
            ((-1, 2), (((3, 2), (3, 2)), ((3, 2), (3, 2)), ((1, 2), (3, 2))), False),
            ((1, 2), (((0, 1), (1, 2)), ((1, 2), (1, 2)), ((-1, 2), (1, 2))), False),
            ((1, 1), (((0, 1), (0, 1)), ((0, 1), (0, 1)), ((-1, 1), (0, 1))), True),
            ((2, 2), (((0, 5), (0, 3)), ((0, 2), (0, 1)), ((-7, 7), (0, 1))), True),
        ):
            self.assertIs(bound_holds(before, FIRST, asked, fraction, paper), right, fraction)
        nothing = program("see not true", "x 2")
        for fraction in ((-5, 1), (0, 1), (1, 3), (7, 2)):
            above, below = fraction
            end = ((below - above, below),) * 2
            self.assertIs(bound_holds(nothing, FIRST, TRUE, fraction, (((0, 1), (0, 1)), end)), True)
            self.assertIs(bound_holds(nothing, FIRST, TRUE, fraction, (((-1, 9), (0, 1)), end)), False)

    def test_loops_that_go_on_for_ever_by_some_way(self):
        # With a fraction below 0 to go on for ever is the best of all: only that bound shows it.
        before = program("choose x from 0, 1; while (x is 0) do (skip); see not true", "x 2")
        low, high = (0, 1), (1, 2)
        wrong = ((low, low), (low, low), (low, low), (low, low), (high, high))
        self.assertIs(bound_holds(before, FIRST, NEVER, (-1, 2), wrong), False)
        self.assertIs(bound_holds(before, FIRST, NEVER, (1, 2), wrong), True)
        one_end = program("while (x is 0) do (skip)", "x 2")
        for fraction, value, right in (((0, 1), (0, 1), True), ((0, 1), (-1, 9), False), ((1, 2), (-1, 2), True),
                                       ((1, 2), (-2, 3), False)):
            end = (-fraction[0], fraction[1])
            paper = ((value, end), (value, end), (end, end))
            self.assertIs(bound_holds(one_end, FIRST, NEVER, fraction, paper), right)

    def test_other_objects(self):
        before = program("choose x from 0, 1; see (x is 0); skip", "x 2")
        paper = bound_paper(before, BOTH, X_IS_0)
        wrong = [paper[:-1], (*paper, paper[-1]), paper[1:], (*paper[:2], paper[2][:1], paper[3]), list(paper), paper[0]]
        wrong += [(*paper[:2], (*paper[2], (0, 1)), paper[3]), *OTHERS]
        wrong += [*changed(paper, other_sequence), *changed(paper, as_none)]
        for thing in wrong:
            self.assertIs(bound_holds(before, BOTH, X_IS_0, (1, 1), thing), False, thing)
        truths = (((True, 1), (0, 1)), *paper[1:])
        self.assertIs(bound_holds(before, BOTH, X_IS_0, (1, 1), truths), False)

    def test_a_paper_shows_that_no_way_is_better(self):
        before = program("choose x from 0, 1; draw x from x weight 1, 1 weight 1; see not true", "x 2")
        self.assertIsNone(bound_paper(before, FIRST, X_IS_0))
        self.assertIsNone(greatest(before, FIRST, X_IS_0))


class ExampleTest(unittest.TestCase):
    """One program looked at in all ways of Part I."""

    def test_one_program(self):
        before = program("while (x is 0) do (choose x from 0, 1; draw x from x weight 1, 2 weight 1; see (x below 2))", "x 3")
        asked = ("is", ("var", "x"), ("num", 1))
        shares = [((0,), (1, 1))]
        self.assertEqual(greatest(before, shares, asked), (1, 1))
        self.assertEqual(least(before, shares, asked), (1, 1))
        self.assertEqual(can(before, asked), [(0,), (1,)])
        # To choose 0 again and again is refused in the end.
        self.assertEqual(must(before, asked), [(1,)])
        self.assertEqual(worst_cost(before, (0,)), (8, 1))
        self.assertEqual(best_cost(before, (0,)), (9, 2))
        stay = nth_way(before, 0)
        self.assertIs(way_holds(before, shares, asked, (0, 1), stay), False)


if __name__ == "__main__":
    unittest.main()
