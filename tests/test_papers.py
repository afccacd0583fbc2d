"""Steps and papers (23)."""

import unittest

from alikechances.errors import BadVars, NotAlike
from alikechances.papers import paper_holds, step_right
from alikechances.tables import table
from tests.helpers import (
    COIN,
    ONE,
    OTHERS,
    SKIP,
    TRUE,
    VX,
    X,
    X_IS_0,
    XY,
    ZERO,
    as_none,
    as_truth,
    changed,
    frozen,
    ifs,
    nots,
    other_sequence,
    program,
    seq,
    sums,
    whiles,
)
from tests.reference import Maker

RULES = ("flat", "fold", "draw", "dead", "swap", "same", "if", "see", "while", "branch")
XY4 = (("x", 4), ("y", 2))
TEXTS = {X: "x 2", XY: "x 2, y 2", XY4: "x 4, y 2"}
Y_IS_0 = ("is", ("var", "y"), ZERO)


def act(text, variables=XY4):
    """The statement of a text."""
    return program(text, TEXTS[variables])[1]


class RuleTest(unittest.TestCase):
    def told(self, rule, before, after, variables):
        both = {step_right(variables, ((), rule, *pair)) for pair in ((before, after), (after, before))}
        self.assertEqual(len(both), 1, "a rule goes in both directions alike")
        return both.pop()

    def right(self, rule, before, after, also=(), variables=XY4):
        """A step by a rule, and by those also named, in both directions, and by no other one."""
        for name in RULES:
            wanted = name == rule or name in also
            self.assertIs(self.told(name, before, after, variables), wanted, (name, before, after))

    def wrong(self, before, after, variables=XY4):
        """A step by no rule at all."""
        self.right(None, before, after, (), variables)

    def test_flat(self):
        one, other, third = act("x := 1"), act("y := 1"), act("see (x is 1)")
        self.right("flat", SKIP, ("seq", ()))
        self.right("flat", SKIP, seq(SKIP, seq(), SKIP))
        self.right("flat", one, seq(one))
        self.right("flat", one, seq(seq(), seq(seq(one)), SKIP))
        self.right("flat", seq(one, other, third), seq(seq(one, other), third))
        self.right("flat", seq(one, seq(other, third)), seq(SKIP, one, other, SKIP, third))
        self.right("flat", seq(one, seq(seq(other), SKIP)), seq(one, other))
        self.right("flat", seq(one, other), seq(one, other))
        self.right("flat", SKIP, SKIP)
        self.wrong(seq(one, other), seq(other, third))
        self.wrong(seq(one, other), one)
        self.wrong(SKIP, one)

    def test_flat_at_every_depth(self):
        one, other = act("x := 1"), act("y := 1")
        self.right("flat", ("if", X_IS_0, seq(one, SKIP), seq()), ("if", X_IS_0, one, SKIP))
        self.right("flat", ("while", X_IS_0, seq(seq(one), other)), seq(("while", X_IS_0, seq(one, other))))
        inner = ("if", Y_IS_0, ("while", X_IS_0, seq(seq(one, other), one)), SKIP)
        self.right("flat", seq(inner, SKIP), ("if", Y_IS_0, ("while", X_IS_0, seq(one, other, one)), seq()))
        self.wrong(("if", X_IS_0, SKIP, one), ("if", X_IS_0, one, SKIP))
        self.wrong(("while", X_IS_0, SKIP), ("while", Y_IS_0, seq()))
        self.wrong(("if", X_IS_0, SKIP, one), one)

    def test_fold_of_sets_and_draws(self):
        self.right("fold", act("x := (x + 4)"), act("x := x"), ("draw",))
        self.right("fold", act("x := (1 - 2)"), act("x := 3"), ("draw",))
        self.right("fold", act("y := (y * y)"), act("y := y"), ("draw",))
        self.wrong(act("x := (x + 2)"), act("x := x"))
        self.wrong(act("x := 1"), act("y := 1"))
        self.wrong(act("x := x"), act("y := y"))
        self.right("fold", act("draw x from (x + 4) weight 2, 5 weight 3"), act("draw x from x weight 2, 1 weight 3"),
                   ("draw",))
        self.wrong(act("draw x from x weight 2, 1 weight 3"), act("draw x from x weight 2, 1 weight 4"))
        self.wrong(act("draw x from x weight 2, 1 weight 3"), act("draw x from x weight 2, 0 weight 3"))
        self.right("draw", act("draw x from x weight 2, 1 weight 3"), act("draw x from 1 weight 3, x weight 2"))
        self.right("draw", act("draw x from 1 weight 2"), act("draw x from 1 weight 1, 1 weight 1"))
        self.right("draw", act("draw x from 1 weight 1"), act("x := 1"))
        self.right("fold", act("x := 1"), act("x := 1"), ("flat", "draw"))
        self.right("fold", act("draw x from y weight 7"), act("draw x from y weight 7"), ("flat", "draw"))

    def test_fold_of_conditions(self):
        self.right("fold", act("see (x is 0)"), act("see (x below 1)"))
        self.wrong(act("see (x is 0)"), act("see (x below 2)"))
        for kind, rest in (("if", (act("x := 1"), SKIP)), ("while", (act("x := 1"),))):
            self.right("fold", (kind, X_IS_0, *rest), (kind, ("below", VX, ONE), *rest))
            self.wrong((kind, X_IS_0, *rest), (kind, ("below", VX, ("num", 2)), *rest))
        self.right("fold", ("see", X_IS_0), ("see", X_IS_0), ("flat",))
        self.wrong(("if", X_IS_0, act("x := 1"), SKIP), ("if", ("below", VX, ONE), act("x := 2"), SKIP))
        self.wrong(("while", X_IS_0, act("x := 1")), ("while", ("below", VX, ONE), act("x := 5")))
        self.wrong(("see", X_IS_0), ("while", X_IS_0, SKIP))

    def test_no_fold_of_chooses_skips_and_seqs(self):
        self.right("flat", SKIP, SKIP)
        self.right("flat", act("choose x from 1, 2"), act("choose x from 1, 2"))
        self.wrong(act("choose x from 1"), act("choose x from 5"))
        self.wrong(act("choose x from 1"), act("x := 1"))
        self.right("flat", seq(COIN, COIN), seq(COIN, COIN))

    def test_draw(self):
        self.right("draw", act("draw x from 1 weight 2, 2 weight 4"), act("draw x from 6 weight 20, 5 weight 10"))
        self.right("draw", act("x := (y + 1)"), act("draw x from (1 + y) weight 3, (y + 5) weight 8"))
        self.right("draw", act("draw x from x weight 1, 0 weight 1, x weight 1"), act("draw x from 4 weight 33, x weight 66"))
        self.wrong(act("draw x from 1 weight 2, 2 weight 4"), act("draw x from 1 weight 2, 2 weight 3"))
        self.wrong(act("draw x from x weight 1, 0 weight 1"), act("draw x from y weight 1, 0 weight 1"))
        self.wrong(act("draw y from 1 weight 1"), act("x := 1"))
        self.wrong(act("x := 1"), SKIP)

    def test_draw_of_one_variable_alone(self):
        self.wrong(act("draw x from x weight 1"), act("y := y"))
        self.right("same", act("x := x"), SKIP)
        self.wrong(act("draw x from x weight 1"), SKIP)

    def test_dead(self):
        for first in ("x := (x + y)", "draw x from x weight 1, 2 weight 3", "choose x from 1, y"):
            for second in ("x := 1", "x := (y + 1)", "draw x from y weight 1, 2 weight 2"):
                self.right("dead", act(f"{first}; {second}"), act(second))
            for second in ("x := (y + x)", "draw x from y weight 1, x weight 2", "choose x from 1, 2", "y := 1",
                           "see (y is 1)", "skip"):
                self.wrong(act(f"{first}; {second}"), act(second))
        self.wrong(act("y := 1; x := 1"), act("x := 1"))
        self.wrong(act("see (x is 1); x := 1"), act("x := 1"))
        self.wrong(act("x := 1; x := 2; x := 3"), act("x := 3"))
        self.wrong(act("x := 1; x := 2"), act("x := 1"))

    def test_swap(self):
        pairs = (
            ("x := 1", "y := 1"), ("draw x from x weight 1, 2 weight 1", "draw y from y weight 1"),
            ("if (x is 0) then (x := 1) else (skip)", "while (y is 0) do (y := 1)"), ("skip", "x := 1"),
            ("if (x is 0) then (see (x is 0)) else (skip)", "y := y"), ("see (x is 0)", "skip"),
        )
        for first, second in pairs:
            one, other = act(first), act(second)
            also = ("flat",) if "skip" in (first, second) else ()
            self.right("swap", seq(one, other), seq(other, one), also)
        self.right("swap", seq(seq(act("x := 1"), act("x := x")), act("y := 1")),
                   seq(act("y := 1"), seq(act("x := 1"), act("x := x"))))
        self.right("swap", seq(act("see (x is 0)"), seq()), seq(seq(), act("see (x is 0)")), ("flat",))

    def test_what_bars_a_swap(self):
        pairs = (
            ("x := 1", "y := x"), ("x := y", "y := 1"), ("x := 1", "x := 2"), ("x := 1", "draw y from x weight 1"),
            ("draw x from 1 weight 1, 2 weight 1", "see (x is 1)"), ("choose x from 1, 2", "y := 1"),
            ("if (y is 0) then (choose y from 0) else (skip)", "x := 1"), ("see (x is 0)", "see (y is 0)"),
            ("see (x is 0)", "while (y is 0) do (y := 1)"),
            ("if (x is 0) then (see (x is 1)) else (skip)", "if (y is 0) then (while (y is 0) do (skip)) else (skip)"),
            ("while (x is 0) do (x := 1)", "while (y is 0) do (y := 1)"), ("if (y is 0) then (x := 1) else (skip)", "y := 1"),
        )
        for first, second in pairs:
            one, other = act(first), act(second)
            self.wrong(seq(one, other), seq(other, one))
        one, other = act("x := 1"), act("y := 1")
        self.wrong(seq(one, other), seq(other, act("x := 2")))
        self.wrong(seq(one, other, SKIP), seq(SKIP, other, one))

    def test_same(self):
        for branch in (act("x := 1"), seq(act("x := 1"), COIN), act("choose x from 1, 2")):
            self.right("same", ("if", X_IS_0, branch, branch), branch)
        self.right("same", ("if", TRUE, COIN, COIN), COIN, ("if",))
        self.right("same", act("x := x"), SKIP)
        self.right("same", act("y := y"), SKIP)
        self.wrong(act("x := (x + 0)"), SKIP)
        self.wrong(act("x := y"), SKIP)
        self.wrong(("if", X_IS_0, COIN, SKIP), COIN)
        self.wrong(("if", X_IS_0, act("x := 1"), act("x := 5")), act("x := 1"))
        self.wrong(("if", X_IS_0, COIN, COIN), SKIP)

    def test_if(self):
        one, other = act("x := 1"), seq(act("x := 2"), COIN)
        sure, never = ("below", VX, ("num", 4)), ("below", VX, ZERO)
        self.right("if", ("if", sure, one, other), one)
        self.right("if", ("if", never, one, other), other)
        self.wrong(("if", sure, one, other), other)
        self.wrong(("if", never, one, other), one)
        self.wrong(("if", X_IS_0, one, other), one)
        self.wrong(("if", X_IS_0, one, other), other)

    def test_if_behind_a_see(self):
        one, other = act("x := 1"), seq(act("x := 2"), COIN)
        see = act("see (x below 2)")
        for condition, branch in ((("below", VX, ("num", 3)), one), (("below", ("num", 2), VX), other)):
            self.right("if", seq(see, ("if", condition, one, other)), seq(see, branch))
            left = other if branch == one else one
            self.wrong(seq(see, ("if", condition, one, other)), seq(see, left))
        self.wrong(seq(see, ("if", X_IS_0, one, other)), seq(see, one))
        self.wrong(seq(see, ("if", X_IS_0, one, other)), seq(see, other))
        nothing = act("see (x below 0)")
        for branch in (one, other):
            self.right("if", seq(nothing, ("if", X_IS_0, one, other)), seq(nothing, branch))
        self.wrong(seq(see, ("if", ("below", VX, ("num", 3)), one, other)), seq(nothing, one))
        self.wrong(seq(act("x := 1"), ("if", TRUE, one, other)), seq(act("x := 1"), one))
        self.wrong(seq(see, ("if", TRUE, one, other)), one)

    def test_see_of_all_states_and_two_sees(self):
        self.right("see", act("see (x below 4)"), SKIP)
        self.right("see", act("see true"), SKIP)
        self.wrong(act("see (x below 3)"), SKIP)
        one, other = act("see (x is 1)"), act("see (y is 1)")
        self.right("see", seq(one, other), act("see ((x is 1) and (y is 1))"))
        self.wrong(seq(one, other), act("see ((y is 1) and (x is 1))"))
        self.wrong(seq(one, other), act("see ((x is 1) or (y is 1))"))
        self.wrong(seq(one, other), one)
        self.right("see", seq(one, one), ("see", ("and", one[1], one[1])), ())

    def test_see_behind_a_set(self):
        assigned = act("x := (x + 1)")
        self.right("see", seq(assigned, act("see (x is 1)")), seq(act("see (x is 0)"), assigned))
        self.right("see", seq(assigned, act("see (x is 0)")), seq(act("see (x is 3)"), assigned))
        self.right("see", seq(assigned, act("see (y is 0)")), seq(act("see (y below 1)"), assigned))
        self.right("see", seq(act("y := x"), act("see (x is 0)")), seq(act("see (x below 1)"), act("y := x")))
        self.wrong(seq(assigned, act("see (x is 1)")), seq(act("see (x is 1)"), assigned))
        self.wrong(seq(assigned, act("see (x is 1)")), seq(act("see (x is 0)"), act("x := (x + 5)")))
        self.wrong(seq(assigned, act("see (x below 2)")), seq(act("see (x is 0)"), assigned))
        # Sets and sees hang on one another: a swap alone does not do it.
        self.right("see", seq(act("x := 1"), act("see (y is 0)")), seq(act("see (y is 0)"), act("x := 1")), ("swap",))

    def test_see_behind_a_draw(self):
        drawn = act("draw x from x weight 1, y weight 1")
        self.right("see", seq(drawn, act("see (y is 1)")), seq(act("see (y is 1)"), drawn), ("swap",))
        self.wrong(seq(drawn, act("see (y is 1)")), seq(act("see not (y is 0)"), drawn))
        self.wrong(seq(drawn, act("see (x is 1)")), seq(act("see (x is 1)"), drawn))
        picked = act("choose x from 0, 1")
        self.wrong(seq(picked, act("see (y is 1)")), seq(act("see (y is 1)"), picked))
        self.right("swap", seq(act("if (x is 0) then (x := 1) else (skip)"), act("see (y is 1)")),
                   seq(act("see (y is 1)"), act("if (x is 0) then (x := 1) else (skip)")))

    def test_while(self):
        for body in (act("x := 1"), seq(COIN, act("y := 1")), act("choose x from 0, 1")):
            loop = ("while", X_IS_0, body)
            self.right("while", loop, ("if", X_IS_0, seq(body, loop), SKIP))
            self.wrong(loop, ("if", X_IS_0, seq(body, loop), seq()))
            self.wrong(loop, ("if", ("below", VX, ONE), seq(body, loop), SKIP))
            self.wrong(loop, ("if", X_IS_0, seq(body, ("while", ("below", VX, ONE), body)), SKIP))
            self.wrong(loop, ("if", X_IS_0, body, SKIP))
            self.wrong(loop, ("if", X_IS_0, seq(loop, body), SKIP))

    def test_while_left_out(self):
        self.right("while", act("while (x below 0) do (x := 1)"), SKIP)
        self.wrong(act("while (x is 0) do (x := 1)"), SKIP)
        see, loop = act("see (x is 1)"), act("while (x is 0) do (x := 1)")
        self.right("while", seq(see, loop), see)
        self.wrong(seq(act("see (x below 2)"), loop), act("see (x below 2)"))
        self.wrong(seq(see, loop), loop)
        self.wrong(seq(see, loop), act("see (x below 2)"))
        self.wrong(seq(act("x := 1"), loop), act("x := 1"))

    def test_see_behind_a_while_left_out(self):
        loop = act("while (x is 0) do (x := 1)")
        self.right("while", seq(loop, act("see not (x is 0)")), loop)
        self.right("while", seq(loop, act("see (0 below x)")), loop)
        self.right("while", seq(act("while true do (skip)"), act("see (x is 0)")), act("while true do (skip)"))
        self.wrong(seq(loop, act("see (x is 1)")), loop)
        self.wrong(seq(loop, act("see not (x is 0)")), act("see not (x is 0)"))
        self.wrong(seq(act("x := 1"), act("see not (x is 0)")), act("x := 1"))

    def test_branch(self):
        for rest in (act("y := 1"), seq(COIN, act("y := 1")), act("choose y from 0, 1")):
            for one, other in ((act("x := 1"), SKIP), (seq(COIN, COIN), act("see (x is 1)"))):
                before = seq(("if", X_IS_0, one, other), rest)
                self.right("branch", before, ("if", X_IS_0, seq(one, rest), seq(other, rest)))
                self.wrong(before, ("if", X_IS_0, seq(one, rest), other))
                self.wrong(before, ("if", Y_IS_0, seq(one, rest), seq(other, rest)))
                self.wrong(before, ("if", X_IS_0, seq(rest, one), seq(rest, other)))
        three = seq(("if", X_IS_0, COIN, SKIP), act("y := 1"), act("y := 0"))
        self.wrong(three, ("if", X_IS_0, seq(COIN, act("y := 1"), act("y := 0")), seq(SKIP, act("y := 1"), act("y := 0"))))


class StepTest(unittest.TestCase):
    def test_any_object(self):
        for thing in OTHERS:
            self.assertIs(step_right(X, thing), False)
        good = ((0, 1), "flat", seq(SKIP, COIN), COIN)
        self.assertIs(step_right(X, good), True)
        for other in OTHERS + (good, [good]):
            for at in range(4):
                if at != 0 or other != ():
                    self.assertIs(step_right(X, (*good[:at], other, *good[at + 1:])), False, (at, other))

    def test_one_thing_of_another_kind(self):
        steps = (
            ((0, 1), "flat", seq(SKIP, COIN), COIN), ((), "draw", ("set", "x", ONE), ("draw", "x", ((ONE, 1),))),
            ((1,), "see", seq(("see", X_IS_0), ("see", TRUE)), ("see", ("and", X_IS_0, TRUE))),
            ((0, 0), "while", ("while", ("is", ONE, ZERO), COIN), SKIP),
        )
        for good in steps:
            self.assertIs(step_right(X, good), True)
            for change in (other_sequence, as_truth, as_none):
                for thing in changed(good, change):
                    self.assertIs(step_right(X, thing), False, thing)

    def test_paths(self):
        for path in ((), (0,), (59, 1, 0), (10 ** 9,)):
            self.assertIs(step_right(X, (path, "flat", SKIP, SKIP)), True)
        for path in ((-1,), (True,), (0, False), [0], [], ("0",), ((0,),), 0, None):
            self.assertIs(step_right(X, (path, "flat", SKIP, SKIP)), False)

    def test_names_of_rules(self):
        for rule in ("", "Flat", "flat ", "fla", None, 0, ("flat",), ["flat"], b"flat"):
            self.assertIs(step_right(X, ((), rule, SKIP, SKIP)), False)

    def test_names_that_are_no_variables(self):
        stranger = ("set", "y", ZERO)
        self.assertIs(step_right(X, ((), "flat", seq(stranger), stranger)), False)
        self.assertIs(step_right(XY, ((), "flat", seq(stranger), stranger)), True)
        for statement in (("see", Y_IS_0), ("draw", "x", ((("var", "y"), 1),)), ("choose", "y", (ZERO,)),
                          ("if", Y_IS_0, SKIP, SKIP), ("while", X_IS_0, stranger)):
            self.assertIs(step_right(X, ((), "flat", seq(statement), statement)), False)
            self.assertIs(step_right(XY, ((), "flat", seq(statement), statement)), True)

    def test_bounds_of_expressions_and_conditions(self):
        for many, wanted in ((9, True), (10, False)):
            statement = ("set", "x", sums(many))
            self.assertIs(step_right(X, ((), "flat", seq(statement), statement)), wanted)
            statement = ("see", nots(many))
            self.assertIs(step_right(X, ((), "flat", seq(statement), statement)), wanted)
        deep = ("see", nots(9))
        self.assertIs(step_right(X, ((), "see", seq(deep, deep), ("see", ("and", nots(9), nots(9))))), False)
        deep = ("see", nots(8))
        self.assertIs(step_right(X, ((), "see", seq(deep, deep), ("see", ("and", nots(8), nots(8))))), True)
        for statement in (("draw", "x", ((ONE, 100),)), ("draw", "x", ()), ("draw", "x", ((ONE, 1),) * 7),
                          ("choose", "x", (ONE,) * 7), ("set", "x", ("num", 100)), ("set", "if", ONE)):
            self.assertIs(step_right(X, ((), "flat", seq(statement), statement)), False)

    def test_bounds_of_statements_are_not_asked(self):
        many = ("seq", (COIN,) * 70)
        self.assertIs(step_right(X, ((), "flat", many, seq(many))), True)
        for statement in (ifs(13), whiles(13), ifs(12, seq())):
            self.assertIs(step_right(X, ((), "flat", statement, seq(statement))), True)
        self.assertIs(step_right(X, ((), "flat", ("seq", ()), SKIP)), True)
        self.assertIs(step_right(X, ((), "flat", ("seq", (COIN,)), COIN)), True)

    def test_bad_variables(self):
        for variables in (None, (), [("x", 2)], (("x", 7),)):
            with self.assertRaises(BadVars):
                step_right(variables, ((), "flat", SKIP, SKIP))


class PaperTest(unittest.TestCase):
    def setUp(self):
        self.program = program("x := 1; x := 0; if (x is 0) then (skip; y := 1) else (while (y is 0) do (skip; y := 1))")
        self.other = program("x := 0; if (x is 0) then (y := 1) else (while (y is 0) do (y := 1))")
        first, second, branch = self.program[1][1]
        self.paper = [
            ((), "flat", self.program[1], seq(seq(first, second), branch)),
            ((0,), "dead", seq(first, second), second),
            ((1, 0), "flat", act("skip; y := 1", XY), act("y := 1", XY)),
            ((1, 1, 0), "flat", act("skip; y := 1", XY), act("y := 1", XY)),
        ]

    def test_it_holds_there_and_back(self):
        self.assertIs(paper_holds(self.program, self.other, self.paper), True)
        back = [(path, rule, after, before) for path, rule, before, after in self.paper[::-1]]
        self.assertIs(paper_holds(self.other, self.program, back), True)
        self.assertIs(paper_holds(self.other, self.program, self.paper), False)
        self.assertEqual(table(self.program), table(self.other))

    def test_a_step_left_out_or_done_twice(self):
        for at in range(4):
            self.assertIs(paper_holds(self.program, self.other, self.paper[:at] + self.paper[at + 1:]), False)
            self.assertIs(paper_holds(self.program, self.other, self.paper[:at + 1] + self.paper[at:]), False)
        self.assertIs(paper_holds(self.program, self.other, self.paper[:2] + self.paper[:1:-1]), True)
        self.assertIs(paper_holds(self.program, self.other, self.paper[::-1]), False)

    def test_one_thing_wrong_in_a_step(self):
        wrong = (
            ((0, 0), "dead", *self.paper[1][2:]), ((1,), "dead", *self.paper[1][2:]), ((0,), "flat", *self.paper[1][2:]),
            ((0,), "dead", act("y := 1; x := 0", XY), act("x := 0", XY)),
            ((0,), "dead", self.paper[1][2], act("x := 1", XY)), None, [self.paper[1]], list(self.paper[1]),
        )
        for step in wrong:
            self.assertIs(paper_holds(self.program, self.other, [self.paper[0], step, *self.paper[2:]]), False)

    def test_paths_that_lead_nowhere(self):
        for path in ((9,), (0, 0), (1, 2, 0), (1, 1, 1), (1, 1, 0, 0, 0), (1, 1, 0, 2), (10 ** 30,)):
            self.assertIs(paper_holds(self.program, self.program, [(path, "flat", SKIP, SKIP)]), False, path)
        for path in ((2, 0, 0), (2, 1, 0, 0)):
            self.assertIs(paper_holds(self.program, self.program, [(path, "flat", SKIP, SKIP)]), True, path)

    def test_a_before_that_does_not_stand_there(self):
        for path, there in (((0,), "x := 1"), ((2, 0, 1), "y := 1"), ((2, 1, 0, 1), "y := 1")):
            statement = act(there, XY)
            self.assertIs(paper_holds(self.program, self.program, [(path, "flat", statement, statement)]), True)
            other = act("x := (1 + 0)", XY)
            self.assertIs(paper_holds(self.program, self.program, [(path, "flat", other, other)]), False)

    def test_the_empty_paper(self):
        self.assertIs(paper_holds(self.program, self.program, []), True)
        self.assertIs(paper_holds(self.program, program("x := 1; x := 0"), []), False)
        self.assertIs(paper_holds((X, COIN), (X, COIN), []), True)
        self.assertIs(paper_holds((X, COIN), (X, SKIP), []), False)

    def test_any_object(self):
        for thing in OTHERS + (tuple(self.paper), {"paper": self.paper}, self.paper + [None], [self.paper]):
            self.assertIs(paper_holds(self.program, self.other, thing), False)
        self.assertIs(paper_holds((X, SKIP), (X, SKIP), ()), False)

    def test_six_thousand_steps_and_one_more(self):
        there, back = ((), "flat", SKIP, seq()), ((), "flat", seq(), SKIP)
        self.assertIs(paper_holds((X, SKIP), (X, SKIP), [there, back] * 3000), True)
        stay = ((), "flat", SKIP, SKIP)
        self.assertIs(paper_holds((X, SKIP), (X, SKIP), [there, back] * 2999 + [stay, stay]), True)
        self.assertIs(paper_holds((X, SKIP), (X, SKIP), [there, back] * 3000 + [stay]), False)

    def test_more_than_sixty_statements_on_the_way(self):
        drawn = program("; ".join(["draw x from 0 weight 1, 1 weight 1"] * 60), "x 2")
        more = ("seq", (*drawn[1][1], SKIP, SKIP))
        paper = [((), "flat", drawn[1], more), ((), "flat", more, drawn[1])]
        self.assertIs(paper_holds(drawn, drawn, paper), True)

    def test_more_than_twelve_within_one_another_on_the_way(self):
        deep = (X, ifs(11, COIN))
        path = (0,) * 11
        double = ("if", X_IS_0, COIN, COIN)
        paper = [
            (path, "same", COIN, double), ((*path, 0), "same", COIN, double),
            ((*path, 0, 0), "flat", COIN, seq(COIN)), ((*path, 0, 0), "flat", seq(COIN), COIN),
            ((*path, 0), "same", double, COIN), (path, "same", double, COIN),
        ]
        self.assertIs(paper_holds(deep, deep, paper), True)
        self.assertIs(paper_holds(deep, deep, paper[:-1]), False)

    def test_very_deep_on_the_way(self):
        paper = [((0,) * deep, "flat", COIN, seq(COIN)) for deep in range(1200)]
        back = [(path, rule, after, before) for path, rule, before, after in paper[::-1]]
        self.assertIs(paper_holds((X, COIN), (X, COIN), paper + back), True)
        self.assertIs(paper_holds((X, COIN), (X, COIN), paper), False)

    def test_programs_with_chooses(self):
        before = program("choose x from 0, 1; x := 1; choose y from 0, 1")
        after = program("x := 1; choose y from 0, 1")
        first, second, third = before[1][1]
        paper = [((), "flat", before[1], seq(seq(first, second), third)), ((0,), "dead", seq(first, second), second)]
        self.assertIs(paper_holds(before, after, paper), True)

    def test_unlike_variables(self):
        for other in ((X, SKIP), ((("y", 2), ("x", 2)), SKIP), ((("x", 2), ("y", 3)), SKIP)):
            with self.assertRaises(NotAlike):
                paper_holds(self.program, other, [])

    def test_nothing_is_changed(self):
        before = frozen(self.paper)
        paper_holds(self.program, self.other, self.paper)
        self.assertEqual(frozen(self.paper), before)


class TableTest(unittest.TestCase):
    """Whatever is a step by a rule leaves the table as it is."""

    def test_made_up_steps(self):
        found = set()
        for seed in range(700):
            made = Maker(seed, most=4, sizes=(2,))
            variables = made.variables()
            names = [name for name, _ in variables]
            one, other = made.statement(names, 2), made.statement(names, 2)
            condition = made.condition(names, 2)
            pairs = (
                (one, other), (seq(one, other), seq(other, one)), (seq(one, other), other), (seq(one, other), one),
                (("if", condition, one, other), one), (("while", condition, one), SKIP), (one, SKIP),
                (seq(one, ("see", condition)), seq(("see", condition), one)),
                (seq(("see", condition), ("if", condition, one, other)), seq(("see", condition), one)),
                (seq(("see", condition), ("while", ("not", condition), one)), ("see", condition)),
            )
            for before, after in pairs:
                told = [rule for rule in RULES if step_right(variables, ((), rule, before, after))]
                found.update(told)
                if told:
                    self.assertEqual(table_of(variables, before), table_of(variables, after), (told, before, after))
        self.assertLessEqual({"fold", "draw", "dead", "swap", "same", "if", "see", "while"}, found)


def table_of(variables, statement):
    """The table of a statement, perhaps with seqs right in a seq."""
    parts = []
    for part in statement[1] if statement[0] == "seq" else [statement]:
        parts.extend(part[1] if part[0] == "seq" else [part])
    return table((variables, seq(*parts, SKIP, SKIP)))


if __name__ == "__main__":
    unittest.main()
