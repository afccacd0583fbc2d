"""Programs put together of others (8)."""

import unittest

from alikechances.building import around, either, renamed, then, with_vars
from alikechances.errors import BadCondition, BadNames, BadProgram, BadVars, NotAlike
from alikechances.programs import is_program
from alikechances.tables import joined, looped, table
from tests import reference
from tests.helpers import (
    CHOICE,
    COIN,
    LOOP,
    ONE,
    OTHERS,
    SKIP,
    TRUE,
    VX,
    VY,
    X,
    X_IS_0,
    XY,
    ifs,
    nested,
    nots,
    program,
    seq,
    whiles,
)


class ThenTest(unittest.TestCase):
    def test_seqs_are_put_together(self):
        for first, second, both in (
            (COIN, LOOP, seq(COIN, LOOP)), (SKIP, SKIP, seq(SKIP, SKIP)), (seq(COIN, SKIP), LOOP, seq(COIN, SKIP, LOOP)),
            (LOOP, seq(SKIP, COIN), seq(LOOP, SKIP, COIN)), (seq(SKIP, COIN), seq(COIN, SKIP), seq(SKIP, COIN, COIN, SKIP)),
            (("if", TRUE, seq(SKIP, SKIP), SKIP), CHOICE, seq(("if", TRUE, seq(SKIP, SKIP), SKIP), CHOICE)),
        ):
            self.assertEqual(then((X, first), (X, second)), (X, both))
            self.assertEqual(then(program=(X, first), other=(X, second)), (X, both))

    def test_too_many_statements(self):
        long = (X, ("seq", (SKIP,) * 59))
        self.assertEqual(then(long, (X, COIN)), (X, ("seq", (SKIP,) * 59 + (COIN,))))
        with self.assertRaises(BadProgram):
            then(long, (X, seq(SKIP, SKIP)))
        with self.assertRaises(BadProgram):
            then((X, ("seq", (SKIP,) * 60)), (X, SKIP))

    def test_other_variables(self):
        for other in (XY, (("x", 3),), (("y", 2),)):
            with self.assertRaises(NotAlike):
                then((X, SKIP), (other, SKIP))
        with self.assertRaises(NotAlike):
            then((XY, SKIP), ((("y", 2), ("x", 2)), SKIP))

    def test_not_alike_goes_ahead_of_what_comes(self):
        with self.assertRaises(NotAlike):
            then((X, ("seq", (SKIP,) * 60)), (XY, SKIP))

    def test_it_does_the_first_and_then_the_second(self):
        for seed in range(30):
            maker = reference.Maker(seed, most=6)
            first = maker.program(3)
            second = (first[0], maker.statement([name for name, _ in first[0]], 3))
            self.assertEqual(table(then(first, second)), joined(first[0], table(first), table(second)))


class EitherTest(unittest.TestCase):
    def test_an_if(self):
        self.assertEqual(either(X_IS_0, (X, COIN), (X, seq(SKIP, LOOP))), (X, ("if", X_IS_0, COIN, seq(SKIP, LOOP))))
        self.assertEqual(either(condition=TRUE, program=(X, COIN), other=(X, SKIP)), (X, ("if", TRUE, COIN, SKIP)))

    def test_errors(self):
        with self.assertRaises(BadCondition):
            either(("is", VY, ONE), (X, COIN), (XY, COIN))
        with self.assertRaises(NotAlike):
            either(X_IS_0, (X, COIN), (XY, COIN))
        with self.assertRaises(NotAlike):
            either(X_IS_0, (X, whiles(11)), (XY, COIN))
        for thing in (nots(10), None, ONE, ["true"], True):
            with self.assertRaises(BadCondition):
                either(thing, (X, COIN), (X, COIN))

    def test_bounds(self):
        self.assertTrue(is_program(either(TRUE, (X, whiles(10)), (X, whiles(10)))))
        with self.assertRaises(BadProgram):
            either(TRUE, (X, whiles(11)), (X, SKIP))
        with self.assertRaises(BadProgram):
            either(TRUE, (X, SKIP), (X, whiles(11)))
        with self.assertRaises(BadProgram):
            either(TRUE, (X, ("seq", (SKIP,) * 30)), (X, ("seq", (SKIP,) * 30)))
        self.assertTrue(is_program(either(nots(9), (X, ("seq", (SKIP,) * 30)), (X, ("seq", (SKIP,) * 29)))))


class AroundTest(unittest.TestCase):
    def test_a_while(self):
        self.assertEqual(around(X_IS_0, (X, seq(COIN, SKIP))), (X, ("while", X_IS_0, seq(COIN, SKIP))))
        self.assertEqual(around(condition=TRUE, program=(X, SKIP)), (X, ("while", TRUE, SKIP)))

    def test_errors(self):
        with self.assertRaises(BadCondition):
            around(("is", VY, ONE), (X, COIN))
        with self.assertRaises(BadCondition):
            around(("is", VY, ONE), (X, whiles(11)))
        with self.assertRaises(BadProgram):
            around(TRUE, (X, whiles(11)))
        with self.assertRaises(BadProgram):
            around(TRUE, (X, ("seq", (SKIP,) * 60)))

    def test_it_is_looped(self):
        for seed in range(30):
            maker = reference.Maker(seed, most=6)
            body = maker.program(3)
            condition = maker.condition([name for name, _ in body[0]])
            self.assertEqual(table(around(condition, body)), looped(condition, body[0], table(body)))


class WithVarsTest(unittest.TestCase):
    def test_further_ones_and_another_order(self):
        for variables in ((("y", 2), ("x", 2)), (("z", 3), ("x", 2), ("y", 2)), XY, (("y", 2), ("z", 6), ("x", 2))):
            made = program("x := y; see (x is 0)")
            self.assertEqual(with_vars(made, variables), (variables, made[1]))
            self.assertEqual(with_vars(program=made, variables=variables), (variables, made[1]))

    def test_not_among_them(self):
        for variables in (X, (("x", 2), ("y", 3)), (("x", 2), ("z", 2)), (("x", 3), ("y", 2))):
            with self.assertRaises(NotAlike):
                with_vars((XY, SKIP), variables)

    def test_bad_variables(self):
        for variables in ((), None, [("x", 2)], (("x", True),), (("x", 2), ("y", 7)), (("x", 5), ("y", 5)), nested(9)):
            with self.assertRaises(BadVars):
                with_vars((X, SKIP), variables)


class RenamedTest(unittest.TestCase):
    everything = (
        "skip; x := (((x + 1) - (y * 1)) + least(x, most(y, 0))); draw y from 1 weight 1, x weight 1; "
        "choose x from 0, y; see (true and ((x is 1) or not (y below 1))); "
        "if (x is 1) then (y := x; skip) else (while (y below x) do (x := y))"
    )

    def test_all_are_put_in_at_once(self):
        made = program(self.everything, "x 2, y 3")
        other = self.everything.replace("x", "#").replace("y", "x").replace("#", "y")
        self.assertEqual(renamed(made, ("y", "x")), program(other, "y 2, x 3"))
        self.assertEqual(renamed(program=made, names=("y", "x")), program(other, "y 2, x 3"))

    def test_new_ones(self):
        made = program(self.everything, "x 2, y 3")
        other = self.everything.replace("x", "aa1").replace("y", "longname12")
        other = other.replace("maa1", "max")
        self.assertEqual(renamed(made, ("aa1", "longname12")), program(other, "aa1 2, longname12 3"))
        self.assertEqual(renamed(made, ("x", "y")), made)
        self.assertEqual(renamed((X, SKIP), ("q",)), ((("q", 2),), SKIP))

    def test_there_and_back(self):
        for seed in range(40):
            made = reference.Maker(seed, ("skip", "set", "draw", "choose", "see", "if", "while", "seq")).program()
            names = tuple(name for name, _ in made[0])
            turned = names[1:] + names[:1]
            back = names[-1:] + names[:-1]
            there = renamed(made, turned)
            self.assertEqual([name for name, _ in there[0]], list(turned))
            self.assertEqual(renamed(there, names), made)
            self.assertEqual(renamed(renamed(made, turned), tuple(names)), made)
            self.assertEqual(len(back), len(names))

    def test_bad_names(self):
        for names in ((), ("x",), ("x", "y", "z"), ("x", "x"), ("x", "if"), ("x", "X"), ("x", "abcdefghijk"), ["x", "y"],
                      ("x", ["y"]), ("x", 1), ("x", None), "xy", None, ("x", ""), ("x", ("y",))):
            with self.assertRaises(BadNames):
                renamed((XY, ("set", "x", VX)), names)


class AllTest(unittest.TestCase):
    def test_what_is_no_program(self):
        good = (X, COIN)
        for thing in OTHERS + ((X, seq(SKIP)), (X, ("set", "y", ONE)), (X, ifs(12)), nested(99)):
            if thing == (X, SKIP):
                continue
            for call in (lambda: then(thing, good), lambda: then(good, thing), lambda: either(TRUE, thing, good),
                         lambda: either(TRUE, good, thing), lambda: around(TRUE, thing), lambda: with_vars(thing, X),
                         lambda: renamed(thing, ("x",))):
                with self.assertRaises(BadProgram):
                    call()


if __name__ == "__main__":
    unittest.main()
