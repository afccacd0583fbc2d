"""Tables of single statements, tables joined, whiles by their rounds (15, 16)."""

import unittest
from fractions import Fraction

from alikechances.errors import (
    BadCondition,
    BadCount,
    BadExpression,
    BadName,
    BadPairs,
    BadProgram,
    BadTable,
    BadVars,
    HasChoices,
)
from alikechances.joins import (
    branched,
    draw_table,
    joined_table,
    looped_for,
    often,
    plain_table,
    rounds,
    see_table,
    set_table,
    table_unlike,
)
from alikechances.programs import states_of
from alikechances.tables import is_table, joined, looped, table
from tests import reference
from tests.helpers import (
    CHOICE,
    COIN,
    LOOP,
    ONE,
    OTHERS,
    SKIP,
    TRUE,
    VX,
    VY,
    X,
    X_IS_0,
    XY,
    ZERO,
    frozen,
    nested,
    nots,
    program,
    seq,
    sums,
    whiles,
)

N = (0, 1)
A = (1, 1)
H = (1, 2)
STAY = (((A, N), N, N), ((N, A), N, N))
FLIP = (((N, A), N, N), ((A, N), N, N))
COINS = (((H, H), N, N), ((H, H), N, N))
MUCH = ((((1, 3), N), (1, 6), H), ((N, (3, 4)), N, (1, 4)))
X3 = (("x", 3),)
X_BELOW_2 = ("below", VX, ("num", 2))
# The example: from 0 to 0, 1, 2, from all else to itself.
EXAMPLE = ((((1, 3), (1, 3), (1, 3)), N, N), ((N, A, N), N, N), ((N, N, A), N, N))
STRANGE = OTHERS + (nested(99), STAY[:1], list(STAY), (((2, 2), N), STAY[1]), ((((2, 4), H), N, N), STAY[1]))


def fractions_of(told):
    """The lines of a table, each as a list of Fractions: the states behind, refused, endless."""
    return [[Fraction(*weight) for weight in (*line[0], line[1], line[2])] for line in told]


def truths(condition, variables):
    names = [name for name, _ in variables]
    return [reference.truth(condition, dict(zip(names, state))) for state in states_of(variables)]


def made_loops(seeds):
    """Conditions and bodies, with their variables and tables."""
    for seed in range(seeds):
        maker = reference.Maker(seed, most=9)
        body = maker.program(4)
        yield maker, maker.condition([name for name, _ in body[0]]), body, table(body)


class SingleStatementsTest(unittest.TestCase):
    def test_skip(self):
        self.assertEqual(plain_table(X), STAY)
        for variables in (X, XY, X3, (("a", 2), ("b", 3), ("c", 2), ("d", 2))):
            self.assertEqual(plain_table(variables=variables), table((variables, SKIP)))

    def test_each_is_the_table_of_the_program_of_it(self):
        for seed in range(80):
            maker = reference.Maker(seed)
            variables = maker.variables()
            names = [name for name, _ in variables]
            name = maker.random.choice(names)
            expression = maker.expression(names, 4)
            self.assertEqual(set_table(variables, name, expression), reference.table((variables, ("set", name, expression))))
            pairs = tuple((maker.expression(names), maker.random.randint(1, 99)) for _ in range(maker.random.randint(1, 6)))
            self.assertEqual(draw_table(variables, name, pairs), reference.table((variables, ("draw", name, pairs))))
            condition = maker.condition(names, 4)
            self.assertEqual(see_table(variables, condition), reference.table((variables, ("see", condition))))

    def test_by_hand(self):
        self.assertEqual(set_table(variables=X, name="x", expression=("less by", ONE, VX)), FLIP)
        self.assertEqual(draw_table(variables=X, name="x", pairs=((ZERO, 7), (ONE, 7))), COINS)
        self.assertEqual(draw_table(X, "x", ((("num", 3), 1),)), (((N, A), N, N),) * 2)
        self.assertEqual(see_table(variables=X, condition=X_IS_0), (((A, N), N, N), ((N, N), A, N)))
        self.assertEqual(set_table(XY, "y", VX)[2], ((N, N, N, A), N, N))

    def test_bad_variables(self):
        for variables in (None, (), list(X), (("x", 1),), (("x", True),), (("if", 2),), nested(99)):
            for call in (lambda: plain_table(variables), lambda: set_table(variables, "x", ONE),
                         lambda: draw_table(variables, "x", ((ONE, 1),)), lambda: see_table(variables, TRUE)):
                with self.assertRaises(BadVars):
                    call()

    def test_bad_names(self):
        for name in OTHERS + ("y", "X", "if", "least", "a" * 11, "1x", "x ", None, ("x",), ["x"], b"x", nested(99)):
            if name == "x":
                continue
            with self.assertRaises(BadName):
                set_table(X, name, ONE)
            with self.assertRaises(BadName):
                draw_table(X, name, ((ONE, 1),))

    def test_a_name_that_is_none_is_told_first_and_one_that_is_not_there_behind(self):
        for name, error in (("if", BadName), ("y", BadExpression)):
            with self.assertRaises(error):
                set_table(X, name, None)
        for name, error in (("if", BadName), ("y", BadPairs)):
            with self.assertRaises(error):
                draw_table(X, name, None)
        with self.assertRaises(BadName):
            set_table(X, "y", VY)
        with self.assertRaises(BadName):
            draw_table(X, "y", ((VY, 1),))

    def test_bad_expressions(self):
        for expression in OTHERS + (VY, ("num", 100), ("num", True), ("num", -1), sums(10), ["num", 1], ("add", ONE), TRUE, nested(99)):
            with self.assertRaises(BadExpression):
                set_table(X, "x", expression)
        self.assertEqual(set_table(X, "x", sums(9)), table((X, ("set", "x", sums(9)))))

    def test_bad_pairs(self):
        one = (ONE, 1)
        for pairs in OTHERS + ((), (one,) * 7, [one], ([ONE, 1],), ((ONE, 0),), ((ONE, 100),), ((ONE, True),), ((ONE, -1),), ((ONE,),),
                               ((ONE, 1, 1),), (ONE, 1), ((VY, 1),), (one, (VY, 1)), ((sums(10), 1),), ((("num", 100), 1),),
                               ((None, 1),), (one, None), ((TRUE, 1),), ((("var", "if"), 1),), nested(99)):
            with self.assertRaises(BadPairs):
                draw_table(X, "x", pairs)
        self.assertEqual(draw_table(X, "x", (one,) * 6), (((N, A), N, N),) * 2)

    def test_bad_conditions(self):
        for condition in OTHERS + (ONE, nots(10), ["true"], ("is", VY, ONE), nested(99)):
            with self.assertRaises(BadCondition):
                see_table(X, condition)


class BranchedTest(unittest.TestCase):
    def test_rows_of_both(self):
        self.assertEqual(branched(X_IS_0, X, MUCH, FLIP), (MUCH[0], FLIP[1]))
        self.assertEqual(branched(condition=X_IS_0, variables=X, table=FLIP, other=MUCH), (FLIP[0], MUCH[1]))
        self.assertEqual(branched(TRUE, X, MUCH, FLIP), MUCH)
        self.assertEqual(branched(nots(1), X, MUCH, FLIP), FLIP)

    def test_it_is_the_table_of_the_if(self):
        for maker, condition, first, told in made_loops(30):
            other = (first[0], maker.statement([name for name, _ in first[0]], 3))
            expected = reference.table((first[0], ("if", condition, first[1], other[1])))
            self.assertEqual(branched(condition, first[0], told, table(other)), expected)

    def test_errors(self):
        for thing in STRANGE + (EXAMPLE,):
            for tables in ((thing, STAY), (STAY, thing)):
                with self.assertRaises(BadTable):
                    branched(TRUE, X, *tables)
        for condition in (None, nots(10), ("is", VY, ONE), ONE):
            with self.assertRaises(BadCondition):
                branched(condition, X, STAY, STAY)
        with self.assertRaises(BadVars):
            branched(TRUE, (), STAY, STAY)


class OftenTest(unittest.TestCase):
    def test_so_many_times(self):
        self.assertEqual(often(X, MUCH, 0), STAY)
        self.assertEqual(often(X, MUCH, 1), MUCH)
        self.assertEqual(often(variables=X, table=FLIP, count=2), STAY)
        self.assertEqual(often(X, FLIP, 999), FLIP)
        self.assertEqual(often(X, FLIP, 1000), STAY)
        self.assertEqual(often(X, COINS, 1000), COINS)
        self.assertEqual(often(X3, EXAMPLE, 2), (
            (((1, 9), (4, 9), (4, 9)), N, N), EXAMPLE[1], EXAMPLE[2],
        ))

    def test_a_thousand(self):
        found = fractions_of(often(X, MUCH, 1000))
        self.assertEqual(found[0][0], Fraction(1, 3 ** 1000))
        self.assertEqual(found[0][2], Fraction(1, 6) * (1 - Fraction(1, 3 ** 1000)) / Fraction(2, 3))
        self.assertEqual(found[1], [0, Fraction(3 ** 1000, 4 ** 1000), 0, 1 - Fraction(3 ** 1000, 4 ** 1000)])
        self.assertTrue(is_table(X, often(X, MUCH, 1000)))

    def test_it_is_joined_again_and_again(self):
        for _, _, body, told in made_loops(25):
            found = plain_table(body[0])
            for count in range(12):
                self.assertEqual(often(body[0], told, count), found)
                found = joined(body[0], found, told)

    def test_bad_counts(self):
        for count in (-1, 1001, True, False, None, "1", (1,), [1], 10 ** 50):
            with self.assertRaises(BadCount):
                often(X, STAY, count)
        for thing in STRANGE + (EXAMPLE,):
            with self.assertRaises(BadTable):
                often(X, thing, 1)
        with self.assertRaises(BadVars):
            often((("x", 7),), STAY, 1)


class JoinedTableTest(unittest.TestCase):
    def test_it_is_table(self):
        for seed in range(120):
            made = reference.Maker(seed, most=12).program(5)
            self.assertEqual(joined_table(made), table(made), made)
        for seed in range(40):
            maker = reference.Maker(seed, ("set", "draw", "while", "while", "if", "see"), sizes=(2, 4, 6))
            made = maker.program(6)
            self.assertEqual(joined_table(program=made), reference.table(made), made)

    def test_loops_within_loops(self):
        text = ("while (x is 0) do (y := 0; while (y is 0) do (draw y from 0 weight 1, 1 weight 2); "
                "draw x from 0 weight 3, 1 weight 1)")
        self.assertEqual(joined_table(program(text))[0], ((N, N, N, A), N, N))
        self.assertEqual(joined_table((X, whiles(11, COIN))), (((N, A), N, N),) * 2)
        self.assertEqual(joined_table((X, whiles(11, SKIP)))[0], ((N, N), N, A))
        self.assertEqual(joined_table((X, ("seq", (COIN,) * 60))), COINS)

    def test_errors(self):
        for made, error in (((X, CHOICE), HasChoices), ((X, seq(LOOP, CHOICE)), HasChoices), ((X, seq(SKIP)), BadProgram),
                            (None, BadProgram), (nested(99), BadProgram)):
            with self.assertRaises(error):
                joined_table(made)


class LoopedForTest(unittest.TestCase):
    def test_the_example(self):
        self.assertEqual(looped_for(X_BELOW_2, X3, EXAMPLE, 0), (((N, N, N), N, A), ((N, N, N), N, A), ((N, N, A), N, N)))
        self.assertEqual(looped_for(X_BELOW_2, X3, EXAMPLE, 1)[0], ((N, N, (1, 3)), N, (2, 3)))
        self.assertEqual(looped_for(X_BELOW_2, X3, EXAMPLE, 2)[0], ((N, N, (4, 9)), N, (5, 9)))
        self.assertEqual(looped_for(condition=X_BELOW_2, variables=X3, table=EXAMPLE, count=2)[1:],
                         (((N, N, N), N, A), ((N, N, A), N, N)))

    def test_a_thousand(self):
        found = fractions_of(looped_for(X_BELOW_2, X3, EXAMPLE, 1000))
        self.assertEqual(found[0], [0, 0, Fraction(1, 2) * (1 - Fraction(1, 3 ** 1000)), 0, Fraction(1, 2) * (1 + Fraction(1, 3 ** 1000))])
        self.assertEqual(looped_for(X_IS_0, X, COINS, 1000)[0], ((N, (2 ** 1000 - 1, 2 ** 1000)), N, (1, 2 ** 1000)))
        self.assertEqual(looped_for(nots(1), X, MUCH, 1000), STAY)

    def test_endless_and_refused_by_the_body(self):
        self.assertEqual(looped_for(X_IS_0, X, MUCH, 1), (((N, N), (1, 6), (5, 6)), STAY[1]))
        self.assertEqual(looped_for(X_IS_0, X, MUCH, 2), (((N, N), (2, 9), (7, 9)), STAY[1]))
        self.assertEqual(looped_for(X_IS_0, X, MUCH, 1)[1], STAY[1])

    def test_against_the_program_cut_off(self):
        for _, condition, body, told in made_loops(40):
            variables = body[0]
            statement = ("if", condition, ("while", TRUE, SKIP), SKIP)
            for count in range(4):
                self.assertEqual(looped_for(condition, variables, told, count), reference.table((variables, statement)))
                statement = ("if", condition, self.put_together(body[1], statement), SKIP)

    def put_together(self, first, second):
        return seq(*(first[1] if first[0] == "seq" else (first,)), second)

    def test_nothing_grows_less_and_all_comes_near(self):
        for _, condition, body, told in made_loops(30):
            exact = fractions_of(looped(condition, body[0], told))
            before = None
            for count in (0, 1, 2, 3, 5, 10, 300, 1000):
                found = fractions_of(looped_for(condition, body[0], told, count))
                for line, limit in zip(found, exact):
                    self.assertTrue(all(weight <= most for weight, most in zip(line[:-1], limit[:-1])))
                if before:
                    for line, old in zip(found, before):
                        self.assertTrue(all(weight >= less for weight, less in zip(line[:-1], old[:-1])))
                before = found
            for line, limit in zip(before, exact):
                self.assertTrue(all(abs(weight - most) < Fraction(1, 10 ** 6) for weight, most in zip(line, limit)))

    def test_a_table_of_one_row_is_none_by_itself(self):
        with self.assertRaises(BadTable):
            looped_for(("is", VY, ONE), X, (((A,), N, N),), 1)
        with self.assertRaises(BadTable):
            looped_for(TRUE, X, (((A,), N, N),), None)

    def test_errors(self):
        for count in (-1, 1001, True, None, "1", (0,)):
            with self.assertRaises(BadCount):
                looped_for(TRUE, X, STAY, count)
        for condition in (None, nots(10), ("is", VY, ONE), ONE):
            with self.assertRaises(BadCondition):
                looped_for(condition, X, STAY, 1)
        for thing in STRANGE + (EXAMPLE,):
            with self.assertRaises(BadTable):
                looped_for(TRUE, X, thing, 1)
        with self.assertRaises(BadVars):
            looped_for(TRUE, None, STAY, 1)


class RoundsTest(unittest.TestCase):
    def test_the_example(self):
        self.assertEqual(rounds(X_BELOW_2, X3, EXAMPLE), (None, None, N))
        self.assertEqual(rounds(condition=X_BELOW_2, variables=X3, table=EXAMPLE), (None, None, N))

    def test_how_often(self):
        self.assertEqual(rounds(X_IS_0, X, COINS), ((2, 1), N))
        self.assertEqual(rounds(X_IS_0, X, FLIP), (A, N))
        self.assertEqual(rounds(TRUE, X, FLIP), (None, None))
        self.assertEqual(rounds(X_IS_0, X3, (EXAMPLE[0], EXAMPLE[1], EXAMPLE[2])), ((3, 2), N, N))
        walk = table(program("draw x from (x - 1) weight 1, (x + 1) weight 1", "x 6"))
        inside = ("not", ("or", ("is", VX, ZERO), ("is", VX, ("num", 5))))
        self.assertEqual(rounds(inside, (("x", 6),), walk), tuple((k * (5 - k), 1) for k in range(6)))

    def test_nowhere(self):
        self.assertEqual(rounds(nots(1), X, MUCH), (N, N))
        self.assertEqual(rounds(nots(1), X3, EXAMPLE), (N, N, N))

    def test_a_body_that_is_endless_or_refused_ends_the_count(self):
        endless = (((N, N), N, A), STAY[1])
        refused = (((N, N), A, N), STAY[1])
        for told in (endless, refused):
            self.assertEqual(rounds(X_IS_0, X, told), (A, N))
            self.assertEqual(rounds(TRUE, X, told), (A, None))
        self.assertEqual(rounds(X_IS_0, X, MUCH), ((3, 2), N))
        self.assertEqual(rounds(TRUE, X, MUCH), ((3, 2), (4, 1)))
        half = (((N, H), N, H), STAY[1])
        self.assertEqual(rounds(TRUE, X, half), (None, None))
        self.assertEqual(rounds(X_IS_0, X, half), (A, N))

    def test_none_just_where_it_goes_round_for_ever(self):
        # From 0 it ends; from 1 it may come to 2, which goes round for ever; from 3 it may come to 0 alone.
        told = table(program("if (x is 0) then (draw x from 0 weight 1, 4 weight 1) else (if (x is 1) then "
                             "(draw x from 0 weight 8, 2 weight 1) else (if (x is 3) then (x := 0) else (skip)))", "x 5"))
        self.assertEqual(rounds(("below", VX, ("num", 4)), (("x", 5),), told), ((2, 1), None, None, (3, 1), N))

    def test_against_the_rounds_one_by_one(self):
        kinds = [0, 0, 0]
        for _, condition, body, told in made_loops(60):
            found = rounds(condition, body[0], told)
            hold = truths(condition, body[0])
            lines = fractions_of(told)
            for at, answer in enumerate(found):
                kinds[0 if answer is None else 1 if answer == N else 2] += 1
                if not hold[at]:
                    self.assertEqual(answer, N)
                elif answer is not None:
                    # The number is 1 and that of what is come to, of which none is None.
                    after = [(weight, found[to]) for to, weight in enumerate(lines[at][:-2]) if weight]
                    self.assertTrue(all(told is not None for _, told in after))
                    self.assertEqual(Fraction(*answer), 1 + sum(weight * Fraction(*told) for weight, told in after))
                    self.assertEqual(answer, reference.pair(Fraction(*answer)))
                self.assertIs(answer is None, self.for_ever(at, hold, lines))
        self.assertGreater(min(kinds), 20)

    def for_ever(self, start, hold, lines):
        """Whether a state is come to from which there is no way out of the rounds."""
        def met(at):
            seen, todo = {at}, [at]
            while todo:
                place = todo.pop()
                for to, weight in enumerate(lines[place][:-2]):
                    if hold[place] and weight and to not in seen:
                        seen.add(to)
                        todo.append(to)
            return seen

        def out(at):
            return not hold[at] or lines[at][-2] > 0 or lines[at][-1] > 0

        return any(not any(out(place) for place in met(at)) for at in met(start))

    def test_errors(self):
        for condition in (None, nots(10), ("is", VY, ONE), ONE):
            with self.assertRaises(BadCondition):
                rounds(condition, X, STAY)
        for thing in STRANGE + (EXAMPLE,):
            with self.assertRaises(BadTable):
                rounds(TRUE, X, thing)
        with self.assertRaises(BadVars):
            rounds(TRUE, list(X), STAY)


class TableUnlikeTest(unittest.TestCase):
    def test_equal_tables(self):
        for told in (STAY, FLIP, COINS, MUCH):
            self.assertIsNone(table_unlike(X, told, told))
        self.assertIsNone(table_unlike(X3, EXAMPLE, table(program(
            "if (x is 0) then (draw x from 0 weight 1, 1 weight 1, 2 weight 1) else (skip)", "x 3"))))

    def test_each_kind_of_place(self):
        self.assertEqual(table_unlike(X, STAY, FLIP), (0, 0))
        self.assertEqual(table_unlike(variables=X, table=STAY, other=(STAY[0], FLIP[1])), (1, 0))
        self.assertEqual(table_unlike(X, STAY, (STAY[0], ((N, H), N, H))), (1, 1))
        refused = (((H, N), H, N), STAY[1])
        endless = (((H, N), N, H), STAY[1])
        self.assertEqual(table_unlike(X, refused, endless), (0, 2))
        self.assertEqual(table_unlike(X, endless, refused), (0, 2))
        self.assertEqual(table_unlike(X, (((H, H), N, N), STAY[1]), refused), (0, 1))
        # A line is together 1: where all ahead of its endless weight is equal, that is, too.
        self.assertEqual(table_unlike(X3, EXAMPLE, (EXAMPLE[0], ((N, N, N), N, A), EXAMPLE[2])), (1, 1))
        self.assertEqual(table_unlike(X3, EXAMPLE, (EXAMPLE[0], EXAMPLE[1], ((N, N, H), H, N))), (2, 2))

    def test_against_all_places(self):
        for maker, _, one, told in made_loops(60):
            other = table((one[0], maker.statement([name for name, _ in one[0]], 3)))
            flat = [(at, place) for at, lines in enumerate(zip(fractions_of(told), fractions_of(other)))
                    for place, (a, b) in enumerate(zip(*lines)) if a != b]
            self.assertEqual(table_unlike(one[0], told, other), min(flat, default=None))

    def test_errors(self):
        for thing in STRANGE + (EXAMPLE,):
            for tables in ((thing, STAY), (STAY, thing)):
                with self.assertRaises(BadTable):
                    table_unlike(X, *tables)
        with self.assertRaises(BadVars):
            table_unlike((), STAY, STAY)


class NothingChangedTest(unittest.TestCase):
    def test_tables_stay_as_they_are(self):
        before = frozen((MUCH, EXAMPLE))
        self.assertEqual(often(X, MUCH, 5), often(X, MUCH, 5))
        self.assertEqual(rounds(X_BELOW_2, X3, EXAMPLE), rounds(X_BELOW_2, X3, EXAMPLE))
        self.assertEqual(frozen((MUCH, EXAMPLE)), before)

    def test_what_is_returned_may_be_handed_back(self):
        great = often(X, MUCH, 1000)
        self.assertEqual(joined(X, great, STAY), great)
        self.assertEqual(often(X, great, 1), great)
        self.assertIsNone(table_unlike(X, great, great))
        self.assertEqual(branched(X_IS_0, X, great, great), great)


if __name__ == "__main__":
    unittest.main()
