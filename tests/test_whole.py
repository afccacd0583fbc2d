"""What holds over the whole program: the main property (3), told in each of the ways that there are (1)."""

import unittest
from fractions import Fraction

from alikechances.ahead import ahead, chance, chance_never
from alikechances.building import around, either, then, with_vars
from alikechances.desk import Desk
from alikechances.errors import TooMany
from alikechances.joins import joined_table
from alikechances.learned import told_by
from alikechances.passes import bettered, cleared, decided, folded, seen_early, tidied, undrawn
from alikechances.programs import has_loops, states_of
from alikechances.same import alike, branch_parting, multiple, parting, same_table
from alikechances.session import Session
from alikechances.tables import table
from alikechances.texts import read_program, write_program
from alikechances.values import behind, let_by, never, wanted
from alikechances.worlds import worlds_table
from tests import reference
from tests.reference import Maker, pair

KINDS = ("skip", "set", "draw", "draw", "see", "if", "while", "seq")
STRAIGHT = ("skip", "set", "draw", "draw", "see", "if", "seq")
PASSES = (tidied, folded, undrawn, cleared, decided, bettered, seen_early)


def table_ahead(program):
    """The table of a program by carrying the share of each state ahead."""
    states = states_of(program[0])
    lines = []
    for state in states:
        weights, refused, endless = ahead(program, [(state, (1, 1))])
        found = dict(weights)
        lines.append((tuple(found.get(other, (0, 1)) for other in states), refused, endless))
    return tuple(lines)


def table_behind(program):
    """The table of a program by carrying back the value 1 of each state behind."""
    many = len(states_of(program[0]))
    columns = [behind(program, tuple((int(other == at), 1) for other in range(many))) for at in range(many)]
    ended, endless = let_by(program), never(program)
    return tuple(
        (tuple(column[at] for column in columns), pair(1 - Fraction(*ended[at]) - Fraction(*endless[at])), endless[at])
        for at in range(many)
    )


class TableTest(unittest.TestCase):
    def test_all_ways_and_both_directions(self):
        straight = 0
        for seed in range(80):
            program = Maker(seed, STRAIGHT if seed % 2 else KINDS, most=9).program(3)
            told = table(program)
            self.assertEqual(told, reference.table(program))
            self.assertEqual(joined_table(program), told)
            self.assertEqual(table_ahead(program), told)
            self.assertEqual(table_behind(program), told)
            if not has_loops(program):
                try:
                    self.assertEqual(worlds_table(program), told)
                    straight += 1
                except TooMany:
                    pass
        self.assertGreater(straight, 30)

    def test_values_behind_against_weights_ahead(self):
        for seed in range(40):
            made = Maker(seed, KINDS, most=9)
            program = made.program(3)
            states = states_of(program[0])
            shares = [(state, (made.random.randint(1, 9), made.random.randint(1, 9))) for state in states]
            values = tuple((made.random.randint(-9, 9), made.random.randint(1, 9)) for _ in states)
            weights, _, _ = ahead(program, shares)
            by_state = dict(zip(states, values))
            one = sum(Fraction(*share) * Fraction(*value) for (_, share), value in zip(shares, behind(program, values)))
            other = sum(Fraction(*weight) * Fraction(*by_state[state]) for state, weight in weights)
            self.assertEqual(one, other)
            ended = sum(Fraction(*weight) for _, weight in weights)
            self.assertEqual(wanted(program, values, shares), pair(one / ended) if ended else None)

    def test_one_way_or_the_other_it_is_the_same_program(self):
        for seed in range(40):
            program = Maker(seed, KINDS, most=9).program(3)
            self.assertEqual(read_program(write_program(program)), program)
            for better in PASSES:
                after, _ = better(program)
                self.assertTrue(same_table(program, after))
                self.assertEqual(multiple(program, after), (1, 1))
                self.assertEqual(read_program(write_program(after)), after)


class SurroundingTest(unittest.TestCase):
    def pairs(self):
        """Pairs of programs of the same variables: alike ones, the same ones, unlike ones."""
        for seed in range(60):
            made = Maker(seed, KINDS, most=6)
            program = made.program(2)
            variables, statement = program
            names = [name for name, _ in variables]
            first = ("var", names[0])
            branched = ("if", ("is", first, ("num", 0)), statement, statement)
            yield made, program, (variables, ("seq", (("draw", names[0], ((first, 1), (first, 1))), *statement[1]))), True
            yield made, program, (variables, branched), True
            yield made, program, (variables, made.statement(names, 2)), False

    def test_the_same_in_branches_and_loops(self):
        for made, one, other, same in self.pairs():
            if same:
                self.assertTrue(same_table(one, other))
            if same_table(one, other):
                condition = made.condition([name for name, _ in one[0]], 2)
                third = (one[0], made.statement([name for name, _ in one[0]], 2))
                self.assertTrue(same_table(around(condition, one), around(condition, other)))
                self.assertTrue(same_table(either(condition, one, third), either(condition, other, third)))
                self.assertTrue(same_table(then(third, one), then(third, other)))
                self.assertTrue(same_table(then(one, third), then(other, third)))

    def test_alike_gives_the_same_chances_and_unlike_is_shown(self):
        seen = {True: 0, False: 0}
        for made, one, other, _ in self.pairs():
            found = parting(one, other)
            seen[found is None] += 1
            self.assertEqual(alike(one, other), found is None)
            if found is None:
                self.asked_everywhere(made, one, other)
                self.assertEqual(branch_parting(one, other) is None, same_table(one, other))
            else:
                self.shown(one, other, found)
        self.assertGreater(min(seen.values()), 20)

    def asked_everywhere(self, made, one, other):
        names = [name for name, _ in one[0]]
        for _ in range(3):
            shares = [(state, (made.random.randint(1, 9), 1)) for state in states_of(one[0]) if made.random.random() < 0.7]
            if shares:
                condition = made.condition(names)
                self.assertEqual(chance(one, shares, condition), chance(other, shares, condition))
                self.assertEqual(chance_never(one, shares), chance_never(other, shares))

    def shown(self, one, other, found):
        """What parts two programs is the answer of a run of each, further variables kept."""
        states, question, first, second = found
        for program, wanted_chance in ((one, first), (other, second)):
            if question[0] == "was":
                lines = dict(zip(states_of(program[0]), table(program)))
                let = [1 - Fraction(*lines[state][1]) for state in states]
                self.assertEqual(wanted_chance, pair(let[0] / sum(let)) if sum(let) else None)
                continue
            shares = [(states[0], (1, 1))]
            if question[0] == "never":
                self.assertEqual(chance_never(program, shares), wanted_chance)
            else:
                told = dict(zip((name for name, _ in program[0]), question[1]))
                condition = ("true",)
                for name, value in told.items():
                    condition = ("and", condition, ("is", ("var", name), ("num", value)))
                self.assertEqual(chance(program, shares, condition), wanted_chance)

    def test_further_variables_are_kept(self):
        program = read_program("vars x 2; draw x from x weight 2, 1 weight 1; see (x is 1)")
        wide = with_vars(program, (("x", 2), ("k", 2)))
        shares = [((0, 0), (1, 1)), ((1, 1), (1, 1))]
        self.assertEqual(chance(wide, shares, ("is", ("var", "k"), ("num", 0))), (1, 4))


class LearnedTest(unittest.TestCase):
    def test_told_by_all_is_what_is_behind(self):
        for seed in range(30):
            made = Maker(seed, KINDS, most=9)
            program = made.program(3)
            names = tuple(name for name, _ in program[0])
            shares = [(state, (made.random.randint(1, 5), 1)) for state in states_of(program[0])]
            weights, _, _ = ahead(program, shares)
            whole = sum(Fraction(*weight) for _, weight in weights)
            self.assertEqual([(values, fraction) for values, fraction, _ in told_by(program, shares, names)],
                             [(state, pair(Fraction(*weight) / whole)) for state, weight in weights])


class DeskTest(unittest.TestCase):
    def test_a_desk_a_session_and_a_program_tell_the_same(self):
        for seed in range(20):
            made = Maker(seed, KINDS, most=6)
            variables, statement = made.program(3)
            text = write_program((variables, statement)).partition("; ")[2]
            desk, session = Desk(), Session(variables)
            desk.say("vars " + ", ".join(f"{name} {size}" for name, size in variables))
            self.assertEqual(desk.say(f"do {text}"), "ok")
            session.do((variables, statement))
            self.assertEqual(desk.session(), session)
            shares = [(state, (1, 1)) for state in states_of(variables)]
            self.assertEqual(session.shares(), ahead((variables, statement), shares)[0])
            self.assertEqual(session.program(), (variables, statement))
            told = chance_never((variables, statement), shares)
            self.assertEqual(desk.say("never"), "none" if told is None else f"{told[0]}/{told[1]}")


if __name__ == "__main__":
    unittest.main()
