"""Which programs are alike in all surroundings, and what parts them (3, 27, 28, 29)."""

import itertools
import unittest
from fractions import Fraction

from alikechances.building import either, then
from alikechances.errors import BadNames, BadProgram, HasChoices, NotAlike
from alikechances.programs import states_of
from alikechances.same import (
    alike,
    alike_for,
    alike_within,
    branch_parting,
    multiple,
    never_matters,
    parting,
    parting_for,
    row_classes,
    same_table,
)
from alikechances.tables import table
from tests import reference
from tests.helpers import CHOICE, COIN, LOOP, OTHERS, SKIP, X, X_IS_0, XY, nested, program, seq

P = program("draw x from 0 weight 1, 1 weight 1; see (x is y)")
Q = program("x := y")
R = program("see (y is 0); x := y")
NOTHING = program("see not true")
NEVER = program("while true do (skip)")
OF_TWO = (alike, multiple, alike_within, same_table, parting, branch_parting)


def lines_of(made):
    """For each state ahead the weights behind and the endless one, as Fractions."""
    return [[Fraction(*weight) for weight in (*line[0], line[2])] for line in reference.table(made)]


def put_ahead(statement, *acts):
    return seq(*acts, *(statement[1] if statement[0] == "seq" else (statement,)))


def made_pairs(count, sizes=(2,), most=4):
    """Pairs of programs of the same few variables, small ones, so that many are alike in one way or another."""
    for seed in range(count):
        maker = reference.Maker(seed, ("skip", "set", "set", "draw", "see", "if", "while"), most=most, sizes=sizes)
        variables = maker.variables()
        names = [name for name, _ in variables]
        first = maker.statement(names, 3)
        other = maker.statement(names, 3)
        pick = maker.random.randint(0, 9)
        if pick < 2:
            other = put_ahead(first, SKIP)
        elif pick < 6:
            # The name is 0 then, at the cost of a share that is the same from everywhere, or hangs on the name.
            name = names[0]
            values = ((("num", 0), 2), (("num", 1) if pick < 4 else ("var", name), 1))
            if pick % 2:
                first = put_ahead(first, ("draw", name, ((("num", 0), 1), (("num", 1), 1))))
            other = put_ahead(first, ("draw", name, values), ("see", ("is", ("var", name), ("num", 0))))
            first = put_ahead(first, ("set", name, ("num", 0)))
        yield maker.random, (variables, first), (variables, other)


def share(above, below):
    return reference.pair(above / below) if below else None


def brute_parting(states, seen, lines, others):
    """The first of what parts, by all questions in their order."""
    questions = [("is", place) for place in seen] + [("never",)]
    for at, state in enumerate(states):
        for place, question in enumerate(questions):
            chances = [share(told[at][place], sum(told[at])) for told in (lines, others)]
            if chances[0] != chances[1]:
                return ((state,), question, *chances)
    for at, other in itertools.combinations(range(len(states)), 2):
        chances = [share(sum(told[at]), sum(told[at]) + sum(told[other])) for told in (lines, others)]
        if chances[0] != chances[1]:
            return ((states[at], states[other]), ("was", states[at]), *chances)
    return None


def viewed(variables, names, lines):
    """All tuples of the names' values, and lines with the weights behind added up by them."""
    order = [[name for name, _ in variables].index(name) for name in names]
    seen = sorted({tuple(state[at] for at in order) for state in states_of(variables)})
    found = []
    for line in lines:
        by_values = dict.fromkeys(seen, Fraction(0))
        for state, weight in zip(states_of(variables), line):
            by_values[tuple(state[at] for at in order)] += weight
        found.append([by_values[values] for values in seen] + line[-1:])
    return seen, found


def answer(lines, shares, asked):
    """The chance of what is asked, of shares of (number of a state, further value)."""
    let_by = sum(weight * sum(lines[at]) for (at, _), weight in shares.items())
    told = sum(weight * lines[at][place] for (at, kept), weight in shares.items()
               for place in range(len(lines[at])) if (place, kept) in asked)
    return told / let_by if let_by else None


class AlikeTest(unittest.TestCase):
    def both(self, one, other, expected):
        self.assertEqual(multiple(one, other), expected)
        self.assertIs(alike(one, other), expected is not None)
        self.assertEqual(multiple(other, one), expected and (expected[1], expected[0]))
        self.assertIs(alike(other, one), expected is not None)

    def test_multiples(self):
        self.both(P, Q, (1, 2))
        self.both(program("draw x from 0 weight 2, 1 weight 3; see (x is 0); x := y"), Q, (2, 5))
        self.both(program("draw x from 0 weight 2, 1 weight 3; see (x is 1); x := y"),
                  program("draw x from 0 weight 2, 1 weight 3; see (x is 0); x := y"), (3, 2))
        self.assertEqual(multiple(program=P, other=Q), (1, 2))
        self.assertIs(alike(program=P, other=Q), True)

    def test_equal_ones(self):
        self.both(Q, Q, (1, 1))
        self.both(Q, program("if (y is 0) then (x := 0) else (x := 1)"), (1, 1))
        self.both(NEVER, program("while true do (x := (x + 1))"), (1, 1))

    def test_nothing_let_by(self):
        self.both(NOTHING, NOTHING, (1, 1))
        self.both(NOTHING, program("x := 0; see (x is 1)"), (1, 1))
        for other in (P, Q, R, NEVER):
            self.both(NOTHING, other, None)

    def test_unlike(self):
        self.both(Q, R, None)
        self.both(Q, program("skip"), None)
        self.both(Q, NEVER, None)
        # Each row is a multiple of the other's, by one number from x 0 and another one from x 1.
        self.both(program("if (x is 0) then (draw x from 0 weight 1, 1 weight 1; see (x is 0)) else (x := 0)", "x 2"),
                  program("x := 0", "x 2"), None)

    def test_endless_weights_count(self):
        half = "draw x from 0 weight 1, 1 weight 1; if (x is 0) then ({}) else ({}); x := 0"
        endless = program(half.format("while true do (skip)", "skip"), "x 2")
        refused = program(half.format("see not true", "skip"), "x 2")
        self.both(endless, refused, None)
        thinned = program("draw x from 0 weight 1, 1 weight 2; see (x is 0); " + half.format("while true do (skip)", "skip"), "x 2")
        self.both(endless, thinned, (3, 1))
        self.both(refused, program("x := 0", "x 2"), (1, 2))

    def test_against_the_tables(self):
        found = {None: 0, (1, 1): 0, "other": 0}
        for _, one, other in made_pairs(300):
            lines, others = [sum(lines_of(made), []) for made in (one, other)]
            quotients = {Fraction(a) / b for a, b in zip(lines, others) if b}
            expected = None
            if [bool(a) for a in lines] == [bool(b) for b in others] and len(quotients) <= 1:
                expected = reference.pair(quotients.pop()) if quotients else (1, 1)
            found[expected if expected in found else "other"] += 1
            self.both(one, other, expected)
        self.assertGreater(min(found.values()), 4, found)


class SurroundingsTest(unittest.TestCase):
    def test_alike_ones_answer_alike_and_what_parts_shows_it(self):
        counts = [0, 0]
        for random, one, other in made_pairs(200):
            lines, others = lines_of(one), lines_of(other)
            many = len(lines)
            counts[alike(one, other)] += 1
            found = parting(one, other)
            self.assertIs(found is None, alike(one, other))
            if found is not None:
                self.shows(states_of(one[0]), lines, others, found)
                continue
            for _ in range(20):
                shares = {(at, kept): random.randint(0, 3) for at in range(many) for kept in range(3)}
                shares[0, 0] = shares[0, 0] or 1
                asked = {(place, kept) for place in range(many + 1) for kept in range(3) if random.random() < 0.4}
                self.assertEqual(answer(lines, shares, asked), answer(others, shares, asked))
        self.assertGreater(min(counts), 40)

    def shows(self, states, lines, others, found):
        """The surrounding that is told gives the chances that are told, and they differ."""
        begun, question, chance, other_chance = found
        shares = {(states.index(state), kept): 1 for kept, state in enumerate(begun)}
        places = range(len(states) + 1)
        if question[0] == "was":
            asked = {(place, 0) for place in places}
        else:
            asked = {(states.index(question[1]) if question[0] == "is" else len(states), 0)}
        for told, by in ((chance, lines), (other_chance, others)):
            expected = answer(by, shares, asked)
            self.assertEqual(told, None if expected is None else reference.pair(expected))
        self.assertNotEqual(chance, other_chance)

    def test_without_further_variables(self):
        counts = [0, 0]
        for random, one, other in made_pairs(200):
            lines, others = lines_of(one), lines_of(other)
            many = len(lines)
            within = alike_within(one, other)
            counts[within] += within != alike(one, other) or not within
            differ = False
            for _ in range(60):
                shares = {(at, 0): random.choice((0, 0, 1, 2, 5)) for at in range(many)}
                if any(shares.values()):
                    asked = {(place, 0) for place in range(many + 1) if random.random() < 0.4}
                    differ = differ or answer(lines, shares, asked) != answer(others, shares, asked)
            self.assertIs(differ, not within, (one, other))
        self.assertGreater(min(counts), 3, counts)

    def test_the_same_table_is_alike_in_branches_and_loops(self):
        for random, one, other in made_pairs(120, most=2):
            self.assertIs(same_table(one, other), lines_of(one) == lines_of(other))
            if same_table(one, other):
                flip = (one[0], ("draw", "x", ((("num", 0), 1), (("num", 1), 1))))
                for around in (lambda made: either(X_IS_0, made, flip), lambda made: then(flip, either(X_IS_0, flip, made))):
                    self.assertTrue(alike(around(one), around(other)))


class AlikeWithinTest(unittest.TestCase):
    def both(self, one, other, expected):
        self.assertIs(alike_within(one, other), expected)
        self.assertIs(alike_within(other, one), expected)

    def test_all_rows_are_multiples_of_one(self):
        self.both(program("if (x is 0) then (draw x from 0 weight 1, 1 weight 1; see (x is 0)) else (x := 0)", "x 2"),
                  program("x := 0", "x 2"), True)
        one = program("if (x is 0) then (draw x from 0 weight 1, 1 weight 2) else "
                      "(draw x from 0 weight 1, 1 weight 2, 2 weight 3; see (x below 2))", "x 3")
        self.both(one, program("draw x from 0 weight 1, 1 weight 2", "x 3"), True)
        self.assertIs(alike(one, program("draw x from 0 weight 1, 1 weight 2", "x 3")), False)

    def test_unlike_rows(self):
        self.both(program("if (x is 0) then (draw x from 0 weight 1, 1 weight 1; see (x is 0)) else (x := 1)", "x 2"),
                  program("skip", "x 2"), False)
        self.both(P, Q, True)
        self.both(Q, R, False)

    def test_the_same_ones_are_all_0(self):
        one = program("see (x below 2); if (x is 0) then (draw x from 0 weight 1, 1 weight 1; see (x is 0)) else (x := 0)", "x 3")
        self.both(one, program("see (x below 2); x := 0", "x 3"), True)
        self.assertIs(alike(one, program("see (x below 2); x := 0", "x 3")), False)
        self.both(one, program("see (x is 0); x := 0", "x 3"), False)
        self.both(program("see (x is 0)", "x 2"), program("see (x is 1); x := 0", "x 2"), False)
        self.both(NOTHING, NOTHING, True)
        self.both(NOTHING, Q, False)

    def test_endless_weights_count(self):
        half = "if (x is {}) then (draw x from 0 weight 1, 1 weight 1; see (x is 0)) else (skip); while true do (skip)"
        self.both(program(half.format(0), "x 2"), program(half.format(1), "x 2"), True)
        self.assertIs(alike(program(half.format(0), "x 2"), program(half.format(1), "x 2")), False)
        self.both(program("while true do (skip)", "x 2"), program("x := 0", "x 2"), False)
        mixed = "draw x from 0 weight 1, 1 weight 1; if (x is 0) then (while true do (skip)) else (x := 0)"
        self.both(program(mixed, "x 2"), program("x := 0", "x 2"), False)


class SameTableTest(unittest.TestCase):
    def test_equal_but_for_how_it_is_done(self):
        self.assertIs(same_table(program=Q, other=program("if (y is 0) then (x := 0) else (x := 1)")), True)
        self.assertIs(same_table(P, Q), False)
        self.assertIs(same_table(NOTHING, program("see (0 is 1)")), True)
        self.assertIs(same_table(NOTHING, NEVER), False)
        self.assertIs(same_table(Q, R), False)
        self.assertIs(same_table((X, COIN), (X, ("draw", "x", ((("num", 2), 5), (("num", 3), 5))))), True)


class PartingTest(unittest.TestCase):
    def test_a_state_behind(self):
        self.assertEqual(parting(Q, R), (((0, 1),), ("is", (0, 0)), (0, 1), None))
        self.assertEqual(parting(R, Q), (((0, 1),), ("is", (0, 0)), None, (0, 1)))
        self.assertEqual(parting(program=Q, other=program("skip")), (((0, 1),), ("is", (0, 1)), (0, 1), (1, 1)))
        self.assertEqual(parting((X, SKIP), (X, COIN)), (((0,),), ("is", (0,)), (1, 1), (1, 2)))

    def test_none_beside_a_fraction(self):
        self.assertEqual(parting(NOTHING, Q), (((0, 0),), ("is", (0, 0)), None, (1, 1)))
        self.assertEqual(parting(NOTHING, NEVER), (((0, 0),), ("is", (0, 0)), None, (0, 1)))
        self.assertIsNone(parting(NOTHING, program("see (1 is 0)")))

    def test_never(self):
        # Where more goes on for ever, less ends somewhere: a state behind tells it ahead of the question of never.
        self.assertEqual(parting((X, ("while", X_IS_0, SKIP)), (X, SKIP)), (((0,),), ("is", (0,)), (0, 1), (1, 1)))
        one = program("draw x from 0 weight 1, 1 weight 1, 2 weight 2; see (x below 2); while (x is 0) do (skip); x := 0", "x 3")
        self.assertEqual(parting(one, program("x := 0", "x 3")), (((0,),), ("is", (0,)), (1, 2), (1, 1)))
        last = program("while (x is 1) do (skip); x := 1", "x 2")
        self.assertEqual(parting(last, program("x := 1", "x 2")), (((1,),), ("is", (1,)), (0, 1), (1, 1)))
        self.assertEqual(parting(NEVER, NOTHING), (((0, 0),), ("is", (0, 0)), (0, 1), None))

    def test_two_states(self):
        one = program("if (x is 0) then (draw x from 0 weight 1, 1 weight 1; see (x is 0)) else (x := 0)", "x 2")
        other = program("x := 0", "x 2")
        self.assertEqual(parting(one, other), (((0,), (1,)), ("was", (0,)), (1, 3), (1, 2)))
        self.assertEqual(parting(other, one), (((0,), (1,)), ("was", (0,)), (1, 2), (1, 3)))
        # From 0 nothing is let by, from 1 and 2 a third and a half, from 3 all.
        one = program("see not (x is 0); if (x is 1) then (draw x from 0 weight 1, 1 weight 2; see (x is 0)) else "
                      "(if (x is 2) then (draw x from 0 weight 1, 1 weight 1; see (x is 0)) else (x := 0))", "x 4")
        other = program("see not (x is 0); x := 0", "x 4")
        self.assertEqual(parting(one, other), (((1,), (2,)), ("was", (1,)), (2, 5), (1, 2)))
        thirds = program("see not (x is 0); draw x from x weight 1, 0 weight 2; see not (x is 0); x := 0", "x 4")
        self.assertEqual(multiple(thirds, other), (1, 3))
        self.assertIsNone(parting(thirds, other))

    def test_endless_is_let_by(self):
        half = "if (x is {}) then (draw x from 0 weight 1, 1 weight 1; see (x is 0)) else (skip); while true do (skip)"
        self.assertEqual(parting(program(half.format(0), "x 2"), program(half.format(1), "x 2")),
                         (((0,), (1,)), ("was", (0,)), (1, 3), (2, 3)))

    def test_alike_ones(self):
        self.assertIsNone(parting(P, Q))
        self.assertIsNone(parting(Q, Q))

    def test_by_all_questions_in_their_order(self):
        kinds = {"is": 0, "never": 0, "was": 0, None: 0}
        for _, one, other in made_pairs(400):
            states = states_of(one[0])
            expected = brute_parting(states, states, lines_of(one), lines_of(other))
            self.assertEqual(parting(one, other), expected)
            kinds[expected and expected[1][0]] += 1
        self.assertGreater(kinds["is"], 50)
        self.assertGreater(kinds["was"], 5)
        self.assertGreater(kinds[None], 50)


class BranchPartingTest(unittest.TestCase):
    def test_the_example(self):
        self.assertEqual(branch_parting(P, Q), ((0, 0), (1, 3), (1, 2)))
        self.assertEqual(branch_parting(program=Q, other=P), ((0, 0), (1, 2), (1, 3)))

    def test_the_same_table(self):
        self.assertIsNone(branch_parting(Q, program("if (y is 0) then (x := 0) else (x := 1)")))
        self.assertIsNone(branch_parting(NOTHING, program("see (1 is 0)")))
        self.assertIsNone(branch_parting(NEVER, NEVER))

    def test_the_least_state_that_lets_something_by(self):
        one = program("see not (x is 0); draw y from 0 weight 1, 1 weight 3; see (y is 0)", "x 3, y 2")
        other = program("see not (x is 0); y := 0", "x 3, y 2")
        self.assertEqual(branch_parting(one, other), ((1, 0), (1, 5), (1, 2)))
        endless = program("draw x from 0 weight 1, 1 weight 3; see (x is 0); while true do (skip)")
        self.assertEqual(branch_parting(endless, NEVER), ((0, 0), (1, 5), (1, 2)))

    def test_it_is_what_a_branch_shows(self):
        found = 0
        for _, one, other in made_pairs(200):
            if not alike(one, other):
                with self.assertRaises(NotAlike):
                    branch_parting(one, other)
                continue
            states = states_of(one[0])
            chances = [[sum(line) / (sum(line) + 1) for line in lines_of(made)] for made in (one, other)]
            expected = next(((state, reference.pair(a), reference.pair(b)) for state, a, b in zip(states, *chances) if a != b), None)
            found += expected is not None
            self.assertEqual(branch_parting(one, other), expected)
        self.assertGreater(found, 4)

    def test_unlike_programs(self):
        for other in (R, NOTHING, NEVER, program("skip"), (X, SKIP), (XY[::-1], Q[1])):
            with self.assertRaises(NotAlike):
                branch_parting(Q, other)


class AlikeForTest(unittest.TestCase):
    one = program("draw x from 0 weight 1, 1 weight 1; y := x; see not (z is 2)", "x 2, y 2, z 3")
    other = program("draw x from 0 weight 1, 1 weight 1; draw y from 0 weight 1, 1 weight 1; see not (z is 2)", "x 2, y 2, z 3")

    def test_all_names_some_and_none(self):
        for names, expected in (((), True), (("x",), True), (("y",), True), (("z", "y"), True), (("x", "z"), True),
                                (("x", "y"), False), (("y", "x"), False), (("z", "x", "y"), False), (("y", "z", "x"), False)):
            self.assertIs(alike_for(self.one, self.other, names), expected)
            self.assertIs(parting_for(self.one, self.other, names) is None, expected)
        self.assertIs(alike_for(program=self.one, other=self.other, names=("x",)), True)

    def test_partings(self):
        self.assertEqual(parting_for(self.one, self.other, ("x", "y")), (((0, 0, 0),), ("is", (0, 0)), (1, 2), (1, 4)))
        self.assertEqual(parting_for(program=self.one, other=self.other, names=("y", "z", "x")),
                         (((0, 0, 0),), ("is", (0, 0, 0)), (1, 2), (1, 4)))
        swap = program("x := y", "x 2, y 3")
        plain = program("skip", "x 2, y 3")
        self.assertEqual(parting_for(plain, swap, ("y", "x")), (((0, 1),), ("is", (1, 0)), (1, 1), (0, 1)))
        self.assertEqual(parting_for(plain, swap, ("x", "y")), (((0, 1),), ("is", (0, 1)), (1, 1), (0, 1)))
        self.assertEqual(parting_for(plain, swap, ("x",)), (((0, 1),), ("is", (0,)), (1, 1), (0, 1)))
        self.assertIsNone(parting_for(plain, swap, ("y",)))

    def test_no_names(self):
        self.assertEqual(parting_for(program("see (x is 0)", "x 2"), (X, SKIP), ()), (((1,),), ("is", ()), None, (1, 1)))
        self.assertEqual(parting_for((X, ("while", X_IS_0, SKIP)), (X, SKIP), ()), (((0,),), ("is", ()), (0, 1), (1, 1)))
        one = program("if (x is 0) then (draw x from 0 weight 1, 1 weight 1; see (x is 0)) else (skip)", "x 2")
        self.assertEqual(parting_for(one, (X, SKIP), ()), (((0,), (1,)), ("was", (0,)), (1, 3), (1, 2)))
        self.assertIs(alike_for(P, Q, ()), True)
        self.assertIs(alike_for((X, SKIP), (X, COIN), ()), True)

    def test_the_order_of_the_names_orders_the_questions(self):
        # From each state: one comes to (1, 0) and (0, 1), the other one to (0, 0) and (1, 1).
        one = program("draw x from 0 weight 1, 1 weight 1; y := (1 - x); if (x is 0) then (z := 2) else (z := 1)", "x 2, y 2, z 3")
        other = program("draw x from 0 weight 1, 1 weight 1; y := (1 - x); if (x is 0) then (z := 1) else (z := 2)", "x 2, y 2, z 3")
        self.assertEqual(parting_for(one, other, ("x", "z")), (((0, 0, 0),), ("is", (0, 1)), (0, 1), (1, 2)))
        self.assertEqual(parting_for(one, other, ("z", "x")), (((0, 0, 0),), ("is", (1, 0)), (0, 1), (1, 2)))
        self.assertEqual(parting_for(one, other, ("z", "y")), (((0, 0, 0),), ("is", (1, 0)), (1, 2), (0, 1)))

    def test_against_the_tables(self):
        found = [0, 0]
        for random, one, other in made_pairs(250):
            names = [name for name, _ in one[0]]
            random.shuffle(names)
            names = tuple(names[:random.randint(0, len(names))])
            seen, lines = viewed(one[0], names, lines_of(one))
            _, others = viewed(one[0], names, lines_of(other))
            expected = brute_parting(states_of(one[0]), seen, lines, others)
            self.assertEqual(parting_for(one, other, names), expected)
            self.assertIs(alike_for(one, other, names), expected is None)
            found[expected is None] += 1
            everything = tuple(name for name, _ in one[0])
            self.assertEqual(parting_for(one, other, everything), parting(one, other))
        self.assertGreater(min(found), 40)

    def test_bad_names(self):
        for names in (("x", "x"), ("w",), ("x", "w"), ["x"], "x", ("X",), ("if",), (None,), (("x", 2),), ("",), None, True, 0,
                      {"x": 1}, nested(99)):
            for function in (alike_for, parting_for):
                with self.assertRaises(BadNames):
                    function(P, Q, names)
        for thing in OTHERS:
            if thing != ():
                with self.assertRaises(BadNames):
                    alike_for(P, Q, thing)


class RowClassesTest(unittest.TestCase):
    def test_classes(self):
        self.assertEqual(row_classes((X, SKIP)), [((0,),), ((1,),)])
        self.assertEqual(row_classes((X, COIN)), [((0,), (1,))])
        self.assertEqual(row_classes(Q), [((0, 0), (1, 0)), ((0, 1), (1, 1))])
        self.assertEqual(row_classes(program=P), [((0, 0), (1, 0)), ((0, 1), (1, 1))])
        one = program("if (x is 0) then (draw x from 0 weight 1, 1 weight 1; see (x is 0)) else (x := 0)", "x 2")
        self.assertEqual(row_classes(one), [((0,), (1,))])

    def test_what_lets_nothing_by_stands_together(self):
        self.assertEqual(row_classes(program("see (x is 1)", "x 3")), [((0,), (2,)), ((1,),)])
        self.assertEqual(row_classes(NOTHING), [((0, 0), (0, 1), (1, 0), (1, 1))])

    def test_endless_weights_count(self):
        self.assertEqual(row_classes((X, ("while", X_IS_0, SKIP))), [((0,),), ((1,),)])
        text = "if (x is 0) then (while true do (skip)) else (if (x is 1) then (see not true) else (while true do (x := 0)))"
        self.assertEqual(row_classes(program(text, "x 3")), [((0,), (2,)), ((1,),)])

    def test_against_the_tables(self):
        for _, made, _ in made_pairs(100, sizes=(2, 3), most=6):
            found = row_classes(made)
            lines = dict(zip(states_of(made[0]), lines_of(made)))
            self.assertEqual(sorted(state for states in found for state in states), sorted(lines))
            self.assertEqual(found, sorted(found))
            for states in found:
                self.assertEqual(states, tuple(sorted(states)))
            for one, other in itertools.combinations(lines, 2):
                together = any(one in states and other in states for states in found)
                pairs = list(zip(lines[one], lines[other]))
                multiples = (sum(lines[one]) > 0) == (sum(lines[other]) > 0) and all(
                    a * sum(lines[other]) == b * sum(lines[one]) for a, b in pairs)
                self.assertIs(together, multiples)


class NeverMattersTest(unittest.TestCase):
    def test_a_variable_that_is_overwritten(self):
        self.assertEqual(never_matters(program("x := 0")), ["x"])
        self.assertEqual(never_matters(Q), ["x"])
        self.assertEqual(never_matters(program=P), ["x"])
        self.assertEqual(never_matters(program("y := 0; x := 1")), ["x", "y"])
        self.assertEqual(never_matters(program("y := 0; b := 1; x := 0", "y 2, x 2, b 3, c 2")), ["b", "x", "y"])
        self.assertEqual(never_matters((XY, SKIP)), [])
        self.assertEqual(never_matters(program("x := (x + y)")), [])
        self.assertEqual(never_matters(program("x := (x * 0)")), ["x"])

    def test_how_much_is_refused_by_one_share(self):
        one = "if (x is 0) then (draw x from 0 weight 1, 1 weight 2; see (x is 0)) else (x := 0)"
        self.assertEqual(never_matters(program(one)), ["x"])
        self.assertEqual(never_matters(program(one + "; y := 0")), ["x", "y"])

    def test_how_much_is_refused_by_shares_that_hang_on_others(self):
        hanging = "if ((x is 0) and (y is 0)) then (draw x from 0 weight 1, 1 weight 2; see (x is 0)) else (x := 0)"
        self.assertEqual(never_matters(program(hanging)), [])
        self.assertEqual(never_matters(program(hanging + "; y := 0")), [])

    def test_refused_from_one_value_alone(self):
        self.assertEqual(never_matters(program("see (x is 0); x := 0")), [])
        self.assertEqual(never_matters(program("see (y is 0); x := 0")), ["x"])
        self.assertEqual(never_matters(NOTHING), ["x", "y"])
        self.assertEqual(never_matters(program("see not (x is 2); x := 0", "x 3")), [])

    def test_whether_it_ends(self):
        self.assertEqual(never_matters(program("while (x is 0) do (skip); x := 0")), [])
        self.assertEqual(never_matters(program("while (y is 0) do (skip); x := 0")), ["x"])
        self.assertEqual(never_matters(NEVER), ["x", "y"])
        self.assertEqual(never_matters((X, LOOP)), ["x"])

    def test_each_two_values(self):
        self.assertEqual(never_matters(program("if (x is 2) then (y := 0) else (skip); x := 0", "x 3, y 2")), [])
        self.assertEqual(never_matters(program("x := 1", "x 6, y 4")), ["x"])

    def test_against_the_tables(self):
        found = 0
        for _, made, _ in made_pairs(150, sizes=(2, 3), most=6):
            lines = dict(zip(states_of(made[0]), lines_of(made)))
            expected = []
            for place, (name, size) in enumerate(made[0]):
                if all(self.one_multiple(lines, place, a, b) for a, b in itertools.combinations(range(size), 2)):
                    expected.append(name)
            found += bool(expected)
            self.assertEqual(never_matters(made), sorted(expected))
        self.assertGreater(found, 30)

    def one_multiple(self, lines, place, a, b):
        quotients = set()
        for state, line in lines.items():
            if state[place] == a:
                other = lines[state[:place] + (b,) + state[place + 1:]]
                if [bool(weight) for weight in line] != [bool(weight) for weight in other]:
                    return False
                quotients |= {one / two for one, two in zip(line, other) if two}
        return len(quotients) <= 1


class ErrorsTest(unittest.TestCase):
    def test_variables_that_are_not_equal_tuples(self):
        for other in ((X, SKIP), (XY[::-1], Q[1]), ((("x", 2), ("y", 3)), Q[1]), ((("x", 2), ("z", 2)), SKIP)):
            for function in OF_TWO + (lambda a, b: alike_for(a, b, ()), lambda a, b: parting_for(a, b, ())):
                with self.assertRaises(NotAlike):
                    function(Q, other)
                with self.assertRaises(HasChoices):
                    function(Q, (other[0], seq(CHOICE, SKIP)))
                with self.assertRaises(HasChoices):
                    function((XY, CHOICE), other)

    def test_no_programs_and_choices(self):
        of_one = (row_classes, never_matters)
        for made, error in (((XY, CHOICE), HasChoices), ((XY, ("while", X_IS_0, CHOICE)), HasChoices), ((XY, seq(SKIP)), BadProgram),
                            (None, BadProgram), (nested(99), BadProgram)):
            for function in OF_TWO:
                for pair in ((made, Q), (Q, made)):
                    with self.assertRaises(error):
                        function(*pair)
            for function in of_one:
                with self.assertRaises(error):
                    function(made)

    def test_new_lists(self):
        for function in (row_classes, never_matters):
            function(Q).clear()
            self.assertTrue(function(Q))
        self.assertEqual(table(Q), table(Q))


if __name__ == "__main__":
    unittest.main()
