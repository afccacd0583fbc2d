"""Variables, trees and their bounds (4, 5), and what is told of programs (7)."""

import unittest

from alikechances.errors import BadCondition, BadExpression, BadProgram, BadState, BadVars
from alikechances.programs import (
    has_choices,
    has_loops,
    holds,
    is_program,
    names_in,
    names_set,
    size_of,
    states_of,
    states_where,
    value_of,
)
from alikechances.words import RESERVED
from tests.helpers import (
    CHOICE,
    COIN,
    LOOP,
    ONE,
    OTHERS,
    SKIP,
    TRUE,
    VX,
    VY,
    X,
    X_IS_0,
    XY,
    XY3,
    ZERO,
    as_none,
    as_truth,
    changed,
    ifs,
    nested,
    nots,
    other_sequence,
    program,
    seq,
    sums,
    whiles,
)

EVERYTHING = program(
    "skip; x := (((x + 1) - (y * 1)) + least(x, most(y, 0))); draw y from 1 weight 1, x weight 1; "
    "choose x from 0, 1; see (true and ((x is 1) or not (y below 1))); "
    "if (x is 1) then (y := 1; skip) else (while true do (x := 0; x := 1))"
)


def of_x(statement):
    return is_program((X, statement))


def asks(condition):
    return of_x(("see", condition))


def sets(expression):
    return of_x(("set", "x", expression))


class VariablesTest(unittest.TestCase):
    def good(self, *variables):
        self.assertTrue(is_program((variables, SKIP)), variables)
        self.assertEqual(len(states_of(variables)[0]), len(variables))

    def bad(self, variables):
        self.assertFalse(is_program((variables, SKIP)), variables)
        with self.assertRaises(BadVars):
            states_of(variables)

    def test_names(self):
        for name in ("x", "a", "z", "x1", "z09", "abcdefghij", "a234567890", "weights", "truee", "i", "type"):
            self.good((name, 2))
        for name in ("", "abcdefghijk", "a2345678901", "1x", "X", "xX", "x_1", "x ", " x", "\u00e9", "x\u00e9", "_x",
                     0, None, ("x",), ["x"], b"x"):
            self.bad(((name, 2),))

    def test_no_word_is_a_name(self):
        self.assertEqual(len(RESERVED), 20)
        for word in ("vars", "skip", "draw", "from", "weight", "choose", "see", "if", "then", "else", "while", "do",
                     "true", "is", "below", "not", "and", "or", "least", "most"):
            self.bad(((word, 2),))
            self.bad((("x", 2), (word, 2)))

    def test_no_name_stands_twice(self):
        self.good(("x", 2), ("y", 2))
        self.bad((("x", 2), ("x", 2)))
        self.bad((("x", 2), ("y", 2), ("x", 3)))

    def test_sizes(self):
        for size in (2, 3, 4, 5, 6):
            self.good(("x", size))
        for size in (1, 7, 0, -2, 24, True, False, None, "2", (2,), 10 ** 30):
            self.bad((("x", size),))

    def test_products(self):
        self.good(("x", 6), ("y", 4))
        self.good(("x", 2), ("y", 3), ("z", 4))
        self.good(("a", 2), ("b", 2), ("c", 2), ("d", 3))
        self.bad((("x", 5), ("y", 5)))
        self.bad((("x", 6), ("y", 5)))
        self.bad((("a", 2), ("b", 2), ("c", 2), ("d", 4)))

    def test_how_many(self):
        self.bad(())
        self.bad((("a", 2), ("b", 2), ("c", 2), ("d", 2), ("e", 2)))

    def test_kinds(self):
        for thing in OTHERS + ([("x", 2)], (["x", 2],), (("x",),), (("x", 2, 3),), ("x", 2), nested(99)):
            self.bad(thing)

    def test_states_are_ascending(self):
        self.assertEqual(states_of(XY3), [(0, 0), (0, 1), (1, 0), (1, 1), (2, 0), (2, 1)])
        self.assertEqual(states_of((("x", 4),)), [(0,), (1,), (2,), (3,)])
        great = states_of((("a", 2), ("b", 2), ("c", 2), ("d", 3)))
        self.assertEqual((len(great), great[0], great[1], great[-1]), (24, (0,) * 4, (0, 0, 0, 1), (1, 1, 1, 2)))
        self.assertEqual(great, sorted(great))


class TreesTest(unittest.TestCase):
    def test_everything(self):
        self.assertTrue(is_program(EVERYTHING))

    def test_a_list_for_a_tuple_at_every_depth(self):
        found = list(changed(EVERYTHING, other_sequence))
        self.assertGreater(len(found), 50)
        for thing in found:
            self.assertIs(is_program(thing), False, thing)

    def test_truths_and_none_stand_for_no_integer_and_no_str(self):
        for change in (as_truth, as_none):
            found = list(changed(EVERYTHING, change))
            self.assertGreaterEqual(len(found), 14)
            for thing in found:
                self.assertIs(is_program(thing), False, thing)

    def test_a_part_more_or_less(self):
        def less(part):
            return (part[:-1],) if isinstance(part, tuple) and part and isinstance(part[0], str) else None

        def more(part):
            return (part + (SKIP,),) if isinstance(part, tuple) and part and isinstance(part[0], str) else None

        for change in (less, more):
            for thing in changed(EVERYTHING[1], change):
                self.assertIs(is_program((XY, thing)), False, thing)

    def test_numbers(self):
        for number in (0, 1, 9, 10, 99):
            self.assertTrue(sets(("num", number)))
        for number in (-1, 100, True, False, "1", None, (1,), 10 ** 40):
            self.assertFalse(sets(("num", number)))

    def test_expressions(self):
        for good in (("var", "x"), ("add", ONE, VX), ("less by", ONE, VX), ("times", ONE, VX), ("least", ONE, VX),
                     ("most", ONE, VX)):
            self.assertTrue(sets(good))
        for bad in (("var", "y"), ("var",), ("var", "x", "x"), ("var", 1), ("num",), ("num", 1, 1), ("add", ONE),
                    ("add", ONE, ONE, ONE), ("sub", ONE, ONE), ("add", ONE, TRUE), ("times", ONE, 1), TRUE, 1, "x",
                    (), ("add", ONE, ("var", "y")), (VX, VX), ("Add", ONE, ONE), nested(99), ("skip",)):
            self.assertFalse(sets(bad), bad)

    def test_conditions(self):
        for good in (TRUE, X_IS_0, ("below", VX, ONE), ("not", TRUE), ("and", TRUE, X_IS_0), ("or", X_IS_0, TRUE)):
            self.assertTrue(asks(good))
        for bad in (("true", 1), ("is", ONE), ("is", TRUE, TRUE), ("below", ONE), ("below", ONE, ONE, ONE), ("not",),
                    ("not", ONE), ("not", TRUE, TRUE), ("and", TRUE), ("or", TRUE, ONE), ("xor", TRUE, TRUE), True,
                    ("is", VY, ONE), ("and", TRUE, ("not", ("below", VX, VY))), (), "true", ONE, nested(99),
                    ("false",), (True,)):
            self.assertFalse(asks(bad), bad)

    def test_acts(self):
        for bad in (("skip", 1), ("set", "x"), ("set", "y", ONE), ("set", "x", ONE, ONE), ("set", "X", ONE),
                    ("set", 1, ONE), ("see",), ("see", ONE), ("see", TRUE, TRUE), ("draw", "y", ((ONE, 1),)),
                    ("choose", "y", (ONE,)), ("draw", "x", (ONE, 1)), ("draw", "x", ((ONE,),)),
                    ("draw", "x", ((ONE, 1, 1),)), ("draw", "x", ((TRUE, 1),)), ("choose", "x", ONE),
                    ("choose", "x", (TRUE,)), ("choose", "x", ((ONE, 1),)), ("undo",), (), None, "skip", 1,
                    ("draw", "x", (((ONE, 1),),)), ("set", ("x",), ONE)):
            self.assertFalse(of_x(bad), bad)

    def test_weights(self):
        for weight in (1, 2, 98, 99):
            self.assertTrue(of_x(("draw", "x", ((ONE, weight),))))
        for weight in (0, 100, -1, True, None, "1", (1, 1)):
            self.assertFalse(of_x(("draw", "x", ((ONE, weight),))))
            self.assertFalse(of_x(("draw", "x", ((ONE, 1), (ONE, weight)))))

    def test_how_many_pairs_and_values(self):
        for many in range(9):
            self.assertIs(of_x(("draw", "x", ((VX, 2),) * many)), 1 <= many <= 6)
            self.assertIs(of_x(("choose", "x", (VX,) * many)), 1 <= many <= 6)

    def test_holders(self):
        for good in (("if", TRUE, SKIP, COIN), ("while", X_IS_0, SKIP), LOOP, ("if", TRUE, seq(SKIP, SKIP), LOOP)):
            self.assertTrue(of_x(good))
        for bad in (("if", TRUE, SKIP), ("if", TRUE, SKIP, SKIP, SKIP), ("if", ONE, SKIP, SKIP), ("while", TRUE),
                    ("while", TRUE, SKIP, SKIP), ("while", ONE, SKIP), ("if", TRUE, TRUE, SKIP),
                    ("if", TRUE, SKIP, (SKIP, SKIP)), ("while", ("is", VY, ONE), SKIP),
                    ("while", TRUE, ("set", "y", ONE))):
            self.assertFalse(of_x(bad), bad)

    def test_seqs(self):
        self.assertFalse(of_x(("seq", ())))
        self.assertFalse(of_x(seq(SKIP)))
        self.assertTrue(of_x(seq(SKIP, SKIP)))
        self.assertFalse(of_x(seq(SKIP, seq(SKIP, SKIP))))
        self.assertFalse(of_x(seq(seq(SKIP, SKIP), SKIP)))
        self.assertFalse(of_x(seq(SKIP, ("if", TRUE, seq(SKIP), SKIP))))
        self.assertTrue(of_x(seq(SKIP, ("if", TRUE, seq(SKIP, SKIP), SKIP))))
        for bad in (("seq",), ("seq", SKIP, SKIP), ("seq", (SKIP, SKIP), SKIP), ("seq", [SKIP, SKIP]),
                    ("seq", (SKIP, ())), ("seq", (SKIP, "skip"))):
            self.assertFalse(of_x(bad), bad)

    def test_sixty_statements(self):
        self.assertTrue(of_x(("seq", (SKIP,) * 60)))
        self.assertFalse(of_x(("seq", (SKIP,) * 61)))
        part = ("if", TRUE, ("seq", (SKIP,) * 9), seq(SKIP, SKIP))
        self.assertTrue(of_x(("seq", (part,) * 5)))
        self.assertFalse(of_x(("seq", (part,) * 5 + (SKIP,))))
        self.assertTrue(of_x(("while", TRUE, ("seq", (SKIP,) * 59))))
        self.assertFalse(of_x(("while", TRUE, ("seq", (SKIP,) * 60))))
        self.assertFalse(of_x(("seq", (part,) * 100000)))

    def test_twelve_within_one_another(self):
        self.assertTrue(of_x(whiles(11)))
        self.assertFalse(of_x(whiles(12)))
        self.assertTrue(of_x(ifs(11)))
        self.assertFalse(of_x(ifs(12)))
        self.assertTrue(of_x(seq(SKIP, whiles(11, seq(SKIP, SKIP)))))
        self.assertFalse(of_x(seq(SKIP, whiles(12, seq(SKIP, SKIP)))))

    def test_what_grows_without_end_is_told_soon(self):
        great = SKIP
        for _ in range(90):
            great = ("if", TRUE, great, great)
        self.assertFalse(of_x(great))
        wide = SKIP
        for _ in range(11):
            wide = ("while", TRUE, ("seq", (wide,) * 50))
        self.assertFalse(of_x(wide))

    def test_ten_within_one_another(self):
        self.assertTrue(sets(sums(9)))
        self.assertFalse(sets(sums(10)))
        self.assertTrue(asks(nots(9)))
        self.assertFalse(asks(nots(10)))
        self.assertTrue(asks(nots(8, ("is", ONE, ONE))))
        self.assertFalse(asks(nots(9, ("is", ONE, ONE))))
        self.assertTrue(asks(("below", ONE, sums(8))))
        self.assertFalse(asks(("below", ONE, sums(9))))
        self.assertFalse(asks(("below", sums(9), ONE)))
        self.assertTrue(asks(nots(4, ("is", sums(4), ONE))))
        self.assertFalse(asks(nots(4, ("is", sums(5), ONE))))
        for expression, truth in ((sums(9), True), (sums(10), False)):
            self.assertIs(of_x(("draw", "x", ((ONE, 1), (expression, 1)))), truth)
            self.assertIs(of_x(("choose", "x", (ONE, expression))), truth)
        self.assertFalse(of_x(("if", nots(10), SKIP, SKIP)))
        self.assertFalse(of_x(("while", nots(10), SKIP)))

    def test_any_object(self):
        for thing in OTHERS + (nested(99), nested(90, "skip"), [X, SKIP], (X,), (X, SKIP, SKIP), (SKIP, X)):
            self.assertIs(is_program(thing), thing == (X, SKIP))
        deep = []
        for _ in range(99):
            deep = [deep]
        self.assertIs(is_program((X, ("seq", (deep, deep)))), False)

    def test_names_have_to_stand_among_the_variables(self):
        self.assertFalse(is_program((XY, ("set", "z", ONE))))
        self.assertFalse(is_program((XY, ("set", "x", ("add", VX, ("var", "z"))))))
        self.assertFalse(is_program((XY, ("choose", "x", (ONE, ("var", "z"))))))
        self.assertFalse(is_program((XY, ("while", TRUE, ("draw", "x", ((ONE, 1), (("var", "z"), 1)))))))


class ToldTest(unittest.TestCase):
    def setUp(self):
        self.variables = (("x", 2), ("b", 2), ("a", 2), ("d", 2))

    def test_names_in(self):
        made = (self.variables, seq(("set", "x", ("var", "b")), ("set", "x", ZERO)))
        self.assertEqual(names_in(made), ["b", "x"])
        self.assertEqual(names_set(made), ["x"])
        for statement, both, changes in (
            (SKIP, [], []),
            (("set", "a", ("least", VX, ("var", "d"))), ["a", "d", "x"], ["a"]),
            (("draw", "x", ((("var", "b"), 1), (ZERO, 1))), ["b", "x"], ["x"]),
            (("choose", "d", (ZERO, ("var", "a"))), ["a", "d"], ["d"]),
            (("see", ("not", ("is", VX, ("var", "a")))), ["a", "x"], []),
            (("if", X_IS_0, ("set", "b", ZERO), ("choose", "a", (ONE,))), ["a", "b", "x"], ["a", "b"]),
            (("while", ("and", TRUE, X_IS_0), ("draw", "d", ((ONE, 1),))), ["d", "x"], ["d"]),
        ):
            self.assertEqual(names_in((self.variables, statement)), both)
            self.assertEqual(names_set((self.variables, statement)), changes)

    def test_value_of(self):
        state = (1, 0)
        for expression, value in (
            (("num", 99), 99), (VX, 1), (VY, 0), (("add", VX, ("num", 99)), 100), (("less by", VY, ("num", 9)), -9),
            (("times", ("less by", VY, VX), ("num", 7)), -7), (("least", VX, VY), 0), (("most", VX, VY), 1),
            (("least", ("num", 5), ("num", 3)), 3), (("less by", ("num", 5), ("num", 3)), 2),
        ):
            self.assertEqual(value_of(expression, XY, state), value)
            self.assertEqual(value_of(expression=expression, variables=XY, state=state), value)
        power = ("num", 99)
        for _ in range(9):
            power = ("times", power, power)
        self.assertEqual(value_of(power, XY, state), 99 ** 512)

    def test_holds(self):
        state = (1, 0)
        for condition, truth in (
            (TRUE, True), (("is", VX, ONE), True), (("is", VX, VY), False), (("below", VY, VX), True),
            (("below", VX, VX), False), (("not", TRUE), False), (("and", TRUE, ("not", TRUE)), False),
            (("and", TRUE, TRUE), True), (("or", ("not", TRUE), TRUE), True),
            (("or", ("not", TRUE), ("not", TRUE)), False), (("below", ("less by", ZERO, ONE), ZERO), True),
            (("is", ("add", VX, ONE), ("num", 2)), True),
        ):
            self.assertIs(holds(condition, XY, state), truth)
            self.assertIs(holds(condition=condition, variables=XY, state=state), truth)

    def test_states_where(self):
        self.assertEqual(states_where(XY3, ("below", VX, VY)), [(0, 1)])
        self.assertEqual(states_where(XY3, TRUE), states_of(XY3))
        self.assertEqual(states_where(XY3, ("not", TRUE)), [])
        self.assertEqual(states_where(variables=XY3, condition=("is", VX, VY)), [(0, 0), (1, 1)])

    def test_sizes(self):
        self.assertEqual(size_of((X, SKIP)), 1)
        self.assertEqual(size_of(EVERYTHING), 11)
        self.assertEqual(size_of((X, ("seq", (SKIP,) * 60))), 60)
        self.assertEqual(size_of((X, ifs(11))), 23)

    def test_loops_and_choices(self):
        for statement, loops, choices in (
            (SKIP, False, False), (LOOP, True, False), (CHOICE, False, True), (seq(SKIP, CHOICE), False, True),
            (ifs(3, LOOP), True, False), (("if", TRUE, SKIP, CHOICE), False, True), (whiles(2, CHOICE), True, True),
        ):
            self.assertIs(has_loops((X, statement)), loops)
            self.assertIs(has_choices((X, statement)), choices)

    def test_bad_programs(self):
        for function in (names_in, names_set, size_of, has_loops, has_choices):
            for thing in OTHERS + ((X, seq(SKIP)), (X, ("set", "y", ONE)), nested(99)):
                if thing != (X, SKIP):
                    with self.assertRaises(BadProgram):
                        function(thing)

    def test_bad_parts(self):
        for thing in (None, 1, TRUE, [], ["num", 1], ("num", 100), ("num", True), sums(10), nested(99)):
            with self.assertRaises(BadExpression):
                value_of(thing, XY, (0, 0))
        for thing in (None, True, ONE, ["true"], nots(10), ("is", ONE, sums(9)), nested(99)):
            with self.assertRaises(BadCondition):
                holds(thing, XY, (0, 0))
            with self.assertRaises(BadCondition):
                states_where(XY, thing)

    def test_names_that_do_not_stand_there(self):
        for thing in (("var", "z"), ("add", ONE, ("times", VX, ("var", "z")))):
            with self.assertRaises(BadExpression):
                value_of(thing, XY, (0, 0))
            with self.assertRaises(BadCondition):
                holds(("is", thing, ONE), XY, (0, 0))
            with self.assertRaises(BadCondition):
                states_where(XY, ("is", thing, ONE))

    def test_bad_states(self):
        for state in (None, 0, [0, 0], (0,), (0, 0, 0), (), (0, 2), (2, 0), (-1, 0), (True, 0), (0, False), ("0", 0),
                      ((0,), 0), nested(99)):
            with self.assertRaises(BadState):
                value_of(ONE, XY, state)
            with self.assertRaises(BadState):
                holds(TRUE, XY, state)

    def test_returned_lists_are_new(self):
        for call in (lambda: states_of(XY), lambda: names_in(EVERYTHING), lambda: names_set(EVERYTHING),
                     lambda: states_where(XY, TRUE)):
            first = call()
            kept = list(first)
            first.clear()
            self.assertEqual(call(), kept)


if __name__ == "__main__":
    unittest.main()
