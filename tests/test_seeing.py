"""Sees brought ahead (25)."""

import unittest

from alikechances.errors import BadProgram
from alikechances.papers import paper_holds
from alikechances.passes import seen_early
from alikechances.programs import has_choices, is_program
from alikechances.tables import table
from alikechances.texts import write_program
from tests.helpers import OTHERS, SKIP, TRUE, VX, X, ONE, ZERO, nots, program, seq, sums
from tests.reference import Maker

SIX = (("x", 6), ("y", 4))
NEVER = ("not", TRUE)


def told(state, names=("x", "y")):
    """The condition of being in a state of two variables."""
    first, second = [("is", ("var", name), ("num", value)) for name, value in zip(names, state)]
    return ("and", first, second)


class SeenEarlyTest(unittest.TestCase):
    def judge(self, before):
        after, paper = seen_early(before)
        self.assertTrue(is_program(after), before)
        self.assertIs(paper_holds(before, after, paper), True, before)
        back = [(path, rule, new, old) for path, rule, old, new in paper[::-1]]
        self.assertIs(paper_holds(after, before, back), True)
        self.assertLessEqual(len(paper), 6000)
        self.assertEqual(seen_early(after), (after, []))
        if not has_choices(before):
            self.assertEqual(table(after), table(before))
        return after

    def makes(self, text, wanted, variables="x 4, y 2"):
        self.assertEqual(write_program(self.judge(program(text, variables))), f"vars {variables}; {wanted}")

    def leaves(self, text, variables="x 4, y 2"):
        before = program(text, variables)
        self.assertEqual(seen_early(before), (before, []))

    def test_ahead_of_draws(self):
        self.makes("draw x from x weight 1, y weight 2; see (y is 1)", "see (y is 1); draw x from x weight 1, y weight 2")
        self.leaves("draw x from x weight 1, y weight 2; see (x is 1)")
        self.leaves("draw x from x weight 1, y weight 2; see ((y is 1) and (x is x))")
        self.makes("y := 1; draw x from 1 weight 1; draw x from 2 weight 1; see true",
                   "see true; y := 1; draw x from 1 weight 1; draw x from 2 weight 1")

    def test_ahead_of_sets(self):
        self.makes("x := 1; see (y is 1)", "see (y is 1); x := 1")
        self.makes("x := (x - 1); see not (y is 1)", "see not (y is 1); x := (x - 1)")
        self.makes("x := (y + 1); see (x is 2)", "see ((y + 1) is 2); x := (y + 1)")
        self.makes("y := 1; x := most(y, x); see not ((x is y) or (x below 1))",
                   "see not ((most(1, x) is 1) or (most(1, x) below 1)); y := 1; x := most(y, x)")
        self.makes("x := 3; see (x is y); y := 0", "see (3 is y); x := 3; y := 0")

    def test_ahead_of_a_set_that_leaves_its_bounds(self):
        self.makes("y := (1 - y); see (y is 1)", "see ((1 - y) is 1); y := (1 - y)")
        self.makes("y := (y + 1); see (y is 1)", "see (y is 0); y := (y + 1)", "y 2")
        self.makes("y := (y - 1); see (y is 0)", "see (y is 1); y := (y - 1)", "y 2")
        self.makes("x := (x + 1); see (x below 2)", "see ((x is 0) or (x is 3)); x := (x + 1)", "x 4")
        self.makes("x := (x + 2); see (x is 1)", "see (((x is 3) and (y is 0)) or ((x is 3) and (y is 1))); x := (x + 2)")
        self.makes("x := (x + 2); see (x is y)",
                   "see (((x is 2) and (y is 0)) or ((x is 3) and (y is 1))); x := (x + 2)")
        self.makes("x := 4; see (x is 4)", "see not true; x := 4")
        self.makes("x := (x - 1); see (x is x)",
                   "see (((x is 0) or (x is 1)) or ((x is 2) or (x is 3))); x := (x - 1)", "x 4")

    def test_told_by_halves_the_first_one_greater(self):
        self.makes("x := (x + 1); see not (x is 0)", "see (((x is 0) or (x is 1)) or (x is 2)); x := (x + 1)", "x 4")
        self.makes("x := (x - 1); see not (x is 5)",
                   "see ((((x is 1) or (x is 2)) or (x is 3)) or ((x is 4) or (x is 5))); x := (x - 1)", "x 6")
        after = self.judge(program("x := (x - 1); see (x is 2)", "x 4, y 2, z 2"))
        states = [(3, y, z) for y in (0, 1) for z in (0, 1)]
        parts = [("and", told(state), ("is", ("var", "z"), ("num", state[2]))) for state in states]
        self.assertEqual(after[1][1][0], ("see", ("or", ("or", parts[0], parts[1]), ("or", parts[2], parts[3]))))

    def test_told_by_states_of_four_variables(self):
        after = self.judge(program("z := (z + 1); see (z is 1)", "x 2, y 2, z 2, w 3"))
        condition = after[1][1][0][1]
        for _ in range(4):
            self.assertEqual(condition[0], "or")
            condition = condition[1]
        first = told((0, 0))
        second = told((0, 0), ("z", "w"))
        self.assertEqual(condition, ("and", first, second))

    def test_ahead_of_a_set_too_deep(self):
        # x < 6, 0 <= 0 * .. <= 5: what comes is ten deep or eleven.
        for many, by_states in ((6, False), (7, True)):
            expression = ("times", ZERO, sums(many, VX))
            before = (X, seq(("set", "x", expression), ("see", ("not", ("is", VX, ONE)))))
            after = self.judge(before)
            wanted = ("or", ("is", VX, ZERO), ("is", VX, ONE)) if by_states else ("not", ("is", expression, ONE))
            self.assertEqual(after[1], seq(("see", wanted), before[1][1][0]))
            before = (X, seq(("set", "x", expression), ("see", ("not", ("is", VX, ZERO)))))
            wanted = NEVER if by_states else ("not", ("is", expression, ZERO))
            self.assertEqual(self.judge(before)[1], seq(("see", wanted), before[1][1][0]))

    def test_ahead_of_skips(self):
        self.makes("skip; see (x is 1)", "see (x is 1); skip")
        self.makes("skip; x := 1; skip; see (x is 1); skip", "see (1 is 1); skip; x := 1; skip; skip")
        self.makes("choose x from 1, 2; skip; see (x is 1)", "choose x from 1, 2; see (x is 1); skip")

    def test_not_ahead_of_chooses_ifs_and_whiles(self):
        for text in ("choose x from 1, 2; see (y is 1)", "if (x is 0) then (y := 1) else (skip); see (x is 0)",
                     "while (x is 0) do (x := 1); see (y is 0)", "see (x is 0)", "x := 1; y := 1", "skip"):
            self.leaves(text)

    def test_two_sees_side_by_side(self):
        self.makes("see (x is 1); see (y is 1)", "see ((x is 1) and (y is 1))")
        self.makes("see (x is 1); see (y is 1); see true", "see (((x is 1) and (y is 1)) and true)")
        self.makes("see (x is 1); see (y is 1); x := 1; see true; see true",
                   "see (((x is 1) and (y is 1)) and (true and true)); x := 1")
        self.makes("x := 1; see (y is 0); skip; see (y is 1)", "see ((y is 0) and (y is 1)); x := 1; skip")
        # Those side by side are put together ahead of any that goes ahead: the second one does not go alone.
        self.makes("x := 1; see (y is 0); y := 1; see (x is 0); see true",
                   "see ((y is 0) and ((1 is 0) and true)); x := 1; y := 1")

    def test_two_sees_too_deep(self):
        for many, by_states in ((8, False), (9, True)):
            before = (X, seq(("see", nots(many)), ("see", nots(1))))
            after = self.judge(before)
            wanted = NEVER if by_states else ("and", nots(many), nots(1))
            self.assertEqual(after[1], ("see", wanted))
        deep = ("see", nots(8, ("true",)))
        deeper = ("see", ("or", nots(8, ("true",)), ("is", VX, ZERO)))
        after = self.judge((X, seq(deep, deeper, ("see", ("is", VX, ONE)))))
        self.assertEqual(after[1], ("see", ("and", ("or", ("is", VX, ZERO), ("is", VX, ONE)), ("is", VX, ONE))))
        self.assertEqual(self.judge((SIX, seq(("see", nots(9)), ("see", nots(9)))))[1], ("see", NEVER))

    def test_two_sees_too_deep_within_a_seq(self):
        # Ten deep: below 3, and above 0.
        less = ("see", ("and", nots(8), ("below", VX, ("num", 3))))
        more = ("see", ("and", nots(8), ("below", ZERO, VX)))
        wanted = ("see", ("or", ("is", VX, ONE), ("is", VX, ("num", 2))))
        choice = ("choose", "x", (VX,))
        for before, after in (
            (seq(less, more), wanted), (seq(choice, less, more), seq(choice, wanted)),
            (seq(choice, more, less, choice), seq(choice, wanted, choice)),
        ):
            self.assertEqual(self.judge(((("x", 4),), before))[1], after)

    def test_all_states_told_too_deep(self):
        variables = (("x", 2), ("y", 2), ("z", 2), ("w", 3))
        deep = ("see", nots(8, ("true",)))
        before = (variables, seq(("see", ("or", deep[1], TRUE)), ("see", ("or", deep[1], TRUE))))
        after = self.judge(before)
        self.assertEqual(after[1][0], "see")
        self.assertEqual(table(after), table((variables, SKIP)))

    def test_inner_seqs(self):
        self.makes("x := 1; if (x is 0) then (y := 1; see (x is 1)) else (skip; see (y is 1); see true); see (x is 0)",
                   "x := 1; if (x is 0) then (see (x is 1); y := 1) else (see ((y is 1) and true); skip); see (x is 0)")
        self.makes("while (x is 0) do (while (y is 0) do (x := 1; see (y is 0)); skip; see (x is 1))",
                   "while (x is 0) do (while (y is 0) do (see (y is 0); x := 1); see (x is 1); skip)")
        self.makes("see (x is 0); see (y is 0); if (x is 0) then (see (x is 0); see (y is 1)) else (skip)",
                   "see ((x is 0) and (y is 0)); if (x is 0) then (see ((x is 0) and (y is 1))) else (skip)")

    def test_many_sees(self):
        parts = []
        for _ in range(30):
            parts += [("draw", "x", ((("var", "x"), 1), (ONE, 1))), ("see", ("below", ("var", "y"), ("num", 3)))]
        after = self.judge((SIX, ("seq", tuple(parts))))
        self.assertEqual([part[0] for part in after[1][1]], ["see"] + ["draw"] * 30)

    def test_made_up_programs(self):
        changed = 0
        for seed in range(150):
            before = Maker(seed, ("skip", "set", "draw", "see", "see", "if", "while", "seq"), most=12).program()
            after = self.judge(before)
            changed += after != before
            self.no_see_is_late(after[1])
        self.assertGreater(changed, 40)

    def no_see_is_late(self, statement):
        """Ahead of each see stands its beginning, a draw of a variable that it names, or what holds others."""
        parts = statement[1] if statement[0] == "seq" else statement[2:] if statement[0] in ("if", "while") else ()
        for before, part in zip(parts, parts[1:]):
            if statement[0] == "seq" and part[0] == "see":
                self.assertIn(before[0], ("if", "while", "draw"))
                self.assertTrue(before[0] != "draw" or f"'{before[1]}'" in repr(part))
        for part in parts:
            self.no_see_is_late(part)

    def test_nothing_but_programs(self):
        for thing in OTHERS:
            if thing != (X, SKIP):
                with self.assertRaises(BadProgram):
                    seen_early(thing)


if __name__ == "__main__":
    unittest.main()
