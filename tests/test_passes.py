"""Programs made better without a change: the six passes of 24."""

import unittest
from fractions import Fraction

from alikechances.choices import greatest, least
from alikechances.costs import costs
from alikechances.errors import BadProgram
from alikechances.papers import paper_holds
from alikechances.passes import bettered, cleared, decided, folded, tidied, undrawn
from alikechances.programs import has_choices, is_program, states_of
from alikechances.tables import table
from alikechances.texts import write_program
from tests.helpers import COIN, OTHERS, SKIP, X, X_IS_0, frozen, ifs, program, seq, whiles
from tests.reference import Maker

PASSES = (tidied, folded, undrawn, cleared, decided, bettered)


def cheaper(one, other):
    """Whether costs are at most others, state by state."""
    return all(
        (old is None) == (new is None) and (old is None or Fraction(*new) <= Fraction(*old))
        for new, old in zip(one, other)
    )


class PassTest(unittest.TestCase):
    def judge(self, better, before):
        """What a pass makes of a program: a program, with a paper, that does the same at no higher cost."""
        told = frozen(before)
        after, paper = better(before)
        self.assertEqual(frozen(before), told)
        self.assertTrue(is_program(after))
        self.assertLessEqual(len(paper), 6000)
        self.assertIs(paper_holds(before, after, paper), True, (better.__name__, before))
        back = [(path, rule, new, old) for path, rule, old, new in paper[::-1]]
        self.assertIs(paper_holds(after, before, back), True)
        self.assertEqual(better(after), (after, []), (better.__name__, before))
        if not has_choices(before):
            self.assertEqual(table(after), table(before))
            self.assertTrue(cheaper(costs(after), costs(before)), (better.__name__, before))
        return after

    def makes(self, better, text, wanted, variables="x 4, y 2"):
        after = self.judge(better, program(text, variables))
        self.assertEqual(write_program(after), f"vars {variables}; {wanted}")

    def leaves(self, better, text, variables="x 4, y 2"):
        before = program(text, variables)
        self.assertEqual(better(before), (before, []))

    def test_tidied(self):
        self.makes(tidied, "skip; x := 1; skip; y := 1; skip", "x := 1; y := 1")
        self.makes(tidied, "skip; x := 1", "x := 1")
        self.makes(tidied, "skip; skip", "skip")
        self.makes(tidied, "if (x is 0) then (skip; skip) else (x := 1; skip)", "if (x is 0) then (skip) else (x := 1)")
        self.makes(tidied, "while (x is 0) do (skip; if (y is 0) then (skip; x := 1; y := 1) else (skip)); skip",
                   "while (x is 0) do (if (y is 0) then (x := 1; y := 1) else (skip))")
        self.makes(tidied, "choose x from 1, 2; skip", "choose x from 1, 2")
        for text in ("skip", "x := x", "x := 1; x := 2", "while true do (skip)", "if true then (skip) else (skip)",
                     "see true; y := (0 + 0)"):
            self.leaves(tidied, text)

    def test_folded_expressions(self):
        self.makes(folded, "x := (1 + 1)", "x := 2")
        self.makes(folded, "x := 7", "x := 3")
        self.makes(folded, "x := (1 - 2)", "x := 3")
        self.makes(folded, "x := (x * 4)", "x := 0")
        self.makes(folded, "y := (y * (y - 1))", "y := 0")
        self.makes(folded, "y := least(y, 0)", "y := 0")
        self.makes(folded, "draw x from (x - x) weight 2, y weight 3, 9 weight 4", "draw x from 0 weight 2, y weight 3, 1 weight 4")
        self.makes(folded, "if (x is 0) then (x := (3 * 3)) else (while (x is 1) do (y := most(y, 1)))",
                   "if (x is 0) then (x := 1) else (while (x is 1) do (y := 1))")
        for text in ("x := (x + 1)", "x := (y + 0)", "choose x from (1 + 1), 7", "choose x from x", "x := 3",
                     "draw x from 0 weight 1, (x * y) weight 2", "draw x from x weight 1"):
            self.leaves(folded, text)

    def test_folded_conditions(self):
        self.makes(folded, "see (x below 4)", "see true")
        self.makes(folded, "see (4 below x)", "see not true")
        self.makes(folded, "if (x is x) then (skip) else (x := 1)", "if true then (skip) else (x := 1)")
        self.makes(folded, "if ((x is 1) and (x is 2)) then (skip) else (x := 1)", "if not true then (skip) else (x := 1)")
        self.makes(folded, "while not ((y is 0) or (y is 1)) do (x := 1)", "while not true do (x := 1)")
        self.makes(folded, "while ((y is 0) or (y is 1)) do (x := 5)", "while true do (x := 1)")
        self.makes(folded, "see not not true", "see true")
        for text in ("see true", "see not true", "see ((x is 1) and true)", "while (x is 1) do (skip)"):
            self.leaves(folded, text)

    def test_folded_sets_that_change_nothing(self):
        self.makes(folded, "x := x", "skip")
        self.makes(folded, "x := (x + 4)", "skip")
        self.makes(folded, "y := (y * y)", "skip")
        self.makes(folded, "x := 1; x := x; y := most(y, 0); x := 2", "x := 1; skip; skip; x := 2")
        self.makes(folded, "if (x is 0) then (x := (x * 1)) else (skip)", "if (x is 0) then (skip) else (skip)")
        self.leaves(folded, "draw x from x weight 1")
        self.leaves(folded, "choose x from x")
        self.leaves(folded, "skip; skip")

    def test_undrawn_puts_values_together(self):
        self.makes(undrawn, "draw x from 2 weight 1, 1 weight 2, 6 weight 3", "draw x from 1 weight 1, 2 weight 2")
        self.makes(undrawn, "draw x from 3 weight 1, 0 weight 1", "draw x from 0 weight 1, 3 weight 1")
        self.makes(undrawn, "draw x from 0 weight 6, 1 weight 9", "draw x from 0 weight 2, 1 weight 3")
        self.makes(undrawn, "draw x from 5 weight 1, 2 weight 1", "draw x from 1 weight 1, 2 weight 1")
        self.makes(undrawn, "draw y from 0 weight 99, 2 weight 99, 1 weight 2", "draw y from 0 weight 99, 1 weight 1")
        self.leaves(undrawn, "draw x from 0 weight 2, 1 weight 3")

    def test_undrawn_makes_sets_of_one_pair(self):
        self.makes(undrawn, "draw x from 2 weight 7", "x := 2")
        self.makes(undrawn, "draw x from 6 weight 7", "x := 2")
        self.makes(undrawn, "draw x from 1 weight 1, 5 weight 99, 9 weight 99", "x := 1")
        self.makes(undrawn, "draw x from (x + 1) weight 7", "x := (x + 1)")
        self.makes(undrawn, "while (x is 0) do (draw x from x weight 3)", "while (x is 0) do (x := x)")

    def test_undrawn_leaves_what_it_cannot_tell(self):
        self.leaves(undrawn, "draw x from 0 weight 99, 4 weight 1, 1 weight 1")
        self.leaves(undrawn, "draw x from 3 weight 99, 7 weight 1, 2 weight 99")
        self.leaves(undrawn, "draw x from x weight 2, 1 weight 2")
        self.leaves(undrawn, "draw x from (0 + 0) weight 2, 0 weight 2")
        self.leaves(undrawn, "choose x from 1, 1")
        self.leaves(undrawn, "x := 7")
        self.makes(undrawn, "draw x from 0 weight 99, 4 weight 1, 1 weight 50", "draw x from 0 weight 2, 1 weight 1")

    def test_cleared(self):
        self.makes(cleared, "x := 1; x := 2", "x := 2")
        self.makes(cleared, "x := 1; x := (x + 1); x := 2", "x := 2")
        self.makes(cleared, "choose x from 1, 2; draw x from y weight 1, 2 weight 1", "draw x from y weight 1, 2 weight 1")
        self.makes(cleared, "draw x from x weight 1, 2 weight 1; x := y; y := 1", "x := y; y := 1")
        self.makes(cleared, "y := 1; y := 0; x := 1; x := 2; see (x is y); x := 3; x := 1",
                   "y := 0; x := 2; see (x is y); x := 1")
        self.makes(cleared, "if (x is 0) then (y := 1; y := 0) else (x := 1; x := y; x := 3; y := 1)",
                   "if (x is 0) then (y := 0) else (x := 3; y := 1)")
        self.makes(cleared, "y := 1; y := 1; while (x is 0) do (x := 1; x := 1); y := 0; y := 0",
                   "y := 1; while (x is 0) do (x := 1); y := 0")

    def test_cleared_leaves_what_is_no_neighbour(self):
        for text in ("x := 1; skip; x := 2", "x := 1; y := 1; x := 2", "x := 1; x := (x + 0)", "x := 1; choose x from 1, 2",
                     "x := 1; see (x is 1); x := 2", "if true then (x := 1) else (x := 2); x := 3", "skip; skip",
                     "x := 1; draw x from 1 weight 1, x weight 1", "y := 1; if (x is 0) then (y := 0) else (y := 0)"):
            self.leaves(cleared, text)

    def test_cleared_leftmost_first_and_seqs_outside_first(self):
        before = program("x := 1; x := 2; x := 3; if (x is 0) then (y := 0; y := 1) else (skip); y := 0; y := 1")
        dead = [(path, after) for path, rule, _, after in cleared(before)[1] if rule == "dead"]
        wanted = ["x := 2", "x := 3", "y := 1", "y := 1"]
        self.assertEqual([after for _, after in dead], [program(text)[1] for text in wanted])
        self.assertEqual([len(path) for path, _ in dead], [1, 1, 1, 2])

    def test_decided(self):
        self.makes(decided, "if (x is 0) then (y := 1) else (y := 1)", "y := 1")
        self.makes(decided, "if (x below 4) then (y := 1) else (y := 0)", "y := 1")
        self.makes(decided, "if (x below 0) then (y := 1) else (y := 0)", "y := 0")
        self.makes(decided, "while (x below 0) do (y := 1)", "skip")
        self.makes(decided, "see (x below 4)", "skip")
        self.makes(decided, "y := 1; see true; if true then (skip) else (y := 1); while not true do (skip)",
                   "y := 1; skip; skip; skip")
        self.makes(decided, "x := 1; if true then (y := 0; y := 1) else (skip); x := 2", "x := 1; y := 0; y := 1; x := 2")

    def test_decided_inner_ones_first(self):
        self.makes(decided, "if (x is 0) then (if true then (y := 1) else (skip)) else (y := 1)", "y := 1")
        self.makes(decided, "if (x is 0) then (see true) else (while not true do (x := 1))", "skip")
        self.makes(decided, "if (x is 0) then (x := 1; if (y is 0) then (y := 1; y := 0) else (y := 1; y := 0)) "
                            "else (x := 1; y := 1; y := 0)", "x := 1; y := 1; y := 0")
        self.makes(decided, "while (x is 0) do (if true then (x := 1; see true) else (skip); y := 1)",
                   "while (x is 0) do (x := 1; skip; y := 1)")

    def test_decided_leaves_the_rest(self):
        for text in ("see (x is 1); if (x is 1) then (y := 1) else (y := 0)", "see (x is 1); while (x is 0) do (y := 1)",
                     "while true do (skip)", "see not true", "if (x is 0) then (y := 1) else (y := (1 + 0))",
                     "choose x from 1, 1", "skip; skip", "if (x is 0) then (skip; y := 1) else (y := 1)"):
            self.leaves(decided, text)

    def test_bettered(self):
        self.makes(bettered, "draw x from 1 weight 1, 1 weight 1, 2 weight 1; x := (x + 0); see (x below 3); skip",
                   "draw x from 1 weight 2, 2 weight 1; see (x below 3)")
        # A skip between two changes, an if between two changes: seen only in a later round.
        self.makes(bettered, "x := 1; x := x; x := 2", "x := 2")
        self.makes(bettered, "x := 1; if (y is y) then (x := 2) else (skip); y := y; x := 3", "x := 3")
        self.makes(bettered, "while (x is 0) do (if (y is 0) then (see true; x := 1) else (draw x from 1 weight 3))",
                   "while (x is 0) do (x := 1)")
        self.makes(bettered, "choose y from 0, 1; skip; draw y from 3 weight 5", "y := 1")
        for text in ("skip", "x := (x + 1)", "while true do (skip)", "see (x is 0)", "choose x from 1, 1"):
            self.leaves(bettered, text)

    def test_made_up_programs(self):
        kinds = ("skip", "set", "draw", "see", "if", "while", "seq")
        changed = {better.__name__: 0 for better in PASSES}
        for seed in range(60):
            before = Maker(seed, kinds, most=12).program()
            for better in PASSES:
                changed[better.__name__] += self.judge(better, before) != before
        self.assertGreater(min(changed.values()), 5, changed)

    def test_made_up_programs_with_chooses(self):
        tried = 0
        for seed in range(60):
            before = Maker(seed, ("set", "draw", "see", "if", "choose", "skip"), most=4, sizes=(2,)).program(3)
            shares = [(state, (1, 1)) for state in states_of(before[0])]
            for better in PASSES:
                after = self.judge(better, before)
                for best in (greatest, least):
                    self.assertEqual(best(after, shares, X_IS_0), best(before, shares, X_IS_0))
            tried += has_choices(before)
        self.assertGreater(tried, 20)

    def test_great_programs(self):
        many = (X, ("seq", (COIN, ("set", "x", ("var", "x")), SKIP) * 20))
        self.assertEqual(self.judge(bettered, many), (X, COIN))
        deep = (X, ifs(11, COIN))
        self.assertEqual(self.judge(bettered, deep), (X, COIN))
        loops = (X, whiles(11, seq(COIN, COIN)))
        self.assertEqual(self.judge(bettered, loops), (X, whiles(11, COIN)))

    def test_nothing_but_programs(self):
        for better in PASSES:
            for thing in OTHERS:
                if thing != (X, SKIP):
                    with self.assertRaises(BadProgram):
                        better(thing)


if __name__ == "__main__":
    unittest.main()
