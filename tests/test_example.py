"""The example (42), in all that it says of what has landed."""

import unittest

from alikechances.loops import ends_surely, rank_paper
from alikechances.programs import states_of
from alikechances.same import alike, branch_parting, multiple, parting, same_table
from alikechances.tables import table
from alikechances.texts import read_program
from alikechances.worlds import worlds
from tests.helpers import X_IS_0

P = read_program("vars x 2, y 2; draw x from 0 weight 1, 1 weight 1; see (x is y)")
Q = read_program("vars x 2, y 2; x := y")
R = read_program("vars x 2, y 2; see (y is 0); x := y")


class ExampleTest(unittest.TestCase):
    def test_what_they_come_to(self):
        self.assertEqual(table(P)[0], (((1, 2), (0, 1), (0, 1), (0, 1)), (1, 2), (0, 1)))
        self.assertEqual(table(Q)[0], (((1, 1), (0, 1), (0, 1), (0, 1)), (0, 1), (0, 1)))
        self.assertEqual(worlds(P, (0, 0)), [((0,), (1, 2), (0, 0)), ((1,), (1, 2), None)])

    def test_alike_but_not_the_same(self):
        self.assertEqual(multiple(P, Q), (1, 2))
        self.assertIs(alike(P, Q), True)
        self.assertIs(same_table(P, Q), False)
        self.assertIsNone(parting(P, Q))
        self.assertEqual(branch_parting(P, Q), ((0, 0), (1, 3), (1, 2)))

    def test_unlike(self):
        self.assertEqual(table(R)[states_of(R[0]).index((0, 1))], (((0, 1),) * 4, (1, 1), (0, 1)))
        self.assertEqual(parting(Q, R), (((0, 1),), ("is", (0, 0)), (0, 1), None))
        self.assertIs(alike(Q, R), False)

    def test_loops(self):
        ending = read_program("vars x 2, y 2; draw x from 0 weight 1, 1 weight 1")
        self.assertIs(ends_surely(X_IS_0, ending), True)
        self.assertEqual(rank_paper(X_IS_0, ending), (1, 1, 0, 0))
        endless = read_program("vars x 2, y 2; draw y from 0 weight 1, 1 weight 1")
        self.assertIs(ends_surely(X_IS_0, endless), False)
        self.assertIsNone(rank_paper(X_IS_0, endless))
        around = read_program("vars x 2, y 2; while (x is 0) do (draw y from 0 weight 1, 1 weight 1)")
        self.assertEqual([endless for _, _, endless in table(around)], [(1, 1), (1, 1), (0, 1), (0, 1)])


if __name__ == "__main__":
    unittest.main()
