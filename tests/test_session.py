"""Sessions (39), (40)."""

import unittest
from fractions import Fraction

from alikechances.ahead import ahead, chance, chance_never, chances
from alikechances.errors import (
    BadCondition,
    BadNames,
    BadNumber,
    BadProgram,
    BadShares,
    BadVars,
    ChanceError,
    Full,
    HasChoices,
    NotAlike,
    NothingToUndo,
)
from alikechances.programs import states_of
from alikechances.session import Session
from tests.helpers import CHOICE, COIN, LOOP, OTHERS, SKIP, TRUE, X, X_IS_0, XY, XY3, frozen, program, seq
from tests.reference import Maker, pair

COINS = (X, COIN)
THERE = ("is", ("var", "y"), ("num", 0))
NEVER = ("not", TRUE)
X_IS_1 = ("is", ("var", "x"), ("num", 1))
SHARES = [((0,), (2, 4)), ((1,), (3, 2))]
ENDLESS = program("draw x from 0 weight 1, 1 weight 1, 2 weight 1; while (x is 2) do (skip)", "x 3")


def told(session):
    """All that can be told of a Session."""
    names = tuple(name for name, _ in session.variables)
    return (session.shares(), session.weight(), session.chance_never(), session.deeds(), len(session),
            session.best_look(names))


class SessionTest(unittest.TestCase):
    def same_after(self, session, error, call):
        """A call that raises an error leaves the Session as it was."""
        before, twin = told(session), session.copy()
        with self.assertRaises(ChanceError) as caught:
            call()
        self.assertIs(type(caught.exception), error)
        self.assertEqual(told(session), before)
        self.assertEqual(session, twin)

    def test_begun_without_shares(self):
        for session in (Session(XY3), Session(XY3, None), Session(variables=XY3, shares=None)):
            self.assertEqual(session.shares(), [(state, (1, 1)) for state in states_of(XY3)])
            self.assertEqual((session.weight(), session.chance_never(), session.deeds(), len(session)), ((1, 1), (0, 1), [], 0))
            self.assertEqual(session.chance(X_IS_0), (1, 3))

    def test_begun_with_shares(self):
        session = Session(X, SHARES)
        self.assertEqual(session.shares(), [((0,), (1, 2)), ((1,), (3, 2))])
        self.assertEqual(session.chance(X_IS_0), (1, 4))
        session = Session(shares=[((1,), (7, 1))], variables=X)
        self.assertEqual((session.shares(), session.chance(X_IS_0), session.weight()), ([((1,), (7, 1))], (0, 1), (1, 1)))

    def test_wrong_beginnings(self):
        for variables in (None, (), [("x", 2)], (("x", 7),)):
            with self.assertRaises(BadVars):
                Session(variables)
            with self.assertRaises(BadVars):
                Session(variables, ())
        for shares in ((), [], 0, False, [((0,), (0, 1))], [((0,), (-1, 1))], [((1,), (1, 1)), ((0,), (1, 1))], [((0,), (1, 1))] * 2,
                       [((2,), (1, 1))], [((0, 0), (1, 1))], [((True,), (1, 1))], [[(0,), (1, 1)]]):
            with self.assertRaises(BadShares):
                Session(X, shares)

    def test_do(self):
        session = Session(X, SHARES)
        self.assertIsNone(session.do(program("draw x from x weight 1, 0 weight 2", "x 2")))
        self.assertEqual(session.shares(), [((0,), (3, 2)), ((1,), (1, 2))])
        self.assertIsNone(session.do(program("see (x is 0); x := 1", "x 2")))
        self.assertEqual(session.shares(), [((1,), (3, 2))])
        self.assertEqual((session.weight(), session.chance(X_IS_1)), ((3, 4), (1, 1)))

    def test_see(self):
        session = Session(X, SHARES)
        self.assertIsNone(session.see(X_IS_1))
        self.assertEqual((session.shares(), session.weight(), len(session)), ([((1,), (3, 2))], (3, 4), 1))
        session.see(TRUE)
        self.assertEqual((session.shares(), session.deeds()), ([((1,), (3, 2))], [("see", X_IS_1), ("see", TRUE)]))

    def test_undo(self):
        session = Session(X, SHARES)
        stages = [told(session)]
        for deed in (COINS, X_IS_0, (X, LOOP), X_IS_0, NEVER, COINS):
            (session.do if deed[0] == X else session.see)(deed)
            stages.append(told(session))
        while len(session):
            self.assertEqual(told(session), stages.pop())
            self.assertIsNone(session.undo())
        self.assertEqual(told(session), stages.pop())
        self.assertEqual(session, Session(X, SHARES))

    def test_nothing_to_undo(self):
        session = Session(X)
        self.same_after(session, NothingToUndo, session.undo)
        session.see(X_IS_0)
        session.undo()
        self.same_after(session, NothingToUndo, session.undo)

    def test_the_endless_weight_is_kept_aside(self):
        session = Session(ENDLESS[0], [((0,), (1, 1))])
        session.do(ENDLESS)
        self.assertEqual((session.shares(), session.chance_never(), session.weight()),
                         ([((0,), (1, 3)), ((1,), (1, 3))], (1, 3), (1, 1)))
        session.see(X_IS_0)
        self.assertEqual((session.chance(X_IS_0), session.chance(TRUE), session.chance_never()), ((1, 2), (1, 2), (1, 2)))
        self.assertEqual((session.weight(), session.shares()), ((2, 3), [((0,), (1, 3))]))
        session.do(ENDLESS)
        self.assertEqual((session.chance_never(), session.chance(X_IS_0), session.weight()), ((2, 3), (1, 6), (2, 3)))
        session.see(NEVER)
        self.assertEqual((session.chance_never(), session.chance(TRUE), session.weight(), session.shares()),
                         ((1, 1), (0, 1), (4, 9), []))
        session.do(ENDLESS)
        self.assertEqual((session.chance_never(), session.weight()), ((1, 1), (4, 9)))
        for _ in range(3):
            session.undo()
        self.assertEqual((session.chance_never(), session.weight()), ((1, 2), (2, 3)))

    def test_no_shares_left(self):
        session = Session(X, SHARES)
        session.see(NEVER)
        for _ in range(2):
            self.assertEqual((session.shares(), session.weight(), session.chance(TRUE), session.chance_never()), ([], (0, 1), None, None))
            self.assertIsNone(session.best_look(("x",)))
            session.do((X, LOOP))
            session.see(X_IS_0)
        while len(session) > 1:
            session.undo()
            self.assertEqual(session.weight(), (0, 1))
        session.undo()
        self.assertEqual((session.weight(), session.chance(X_IS_0)), ((1, 1), (1, 4)))

    def test_wrong_programs(self):
        session = Session(XY)
        for thing in OTHERS + ((X, seq(SKIP)),):
            if thing != (X, SKIP):
                self.same_after(session, BadProgram, lambda: session.do(thing))
        for wrong in ((X, CHOICE), (XY, CHOICE), (X, seq(LOOP, CHOICE))):
            self.same_after(session, HasChoices, lambda: session.do(wrong))
        for wrong in ((X, COIN), (XY[::-1], COIN), (XY3, COIN), (XY + (("z", 2),), COIN)):
            self.same_after(session, NotAlike, lambda: session.do(wrong))

    def test_wrong_conditions(self):
        session = Session(X)
        for call in (session.see, session.chance):
            for thing in (*OTHERS, ("var", "x"), ("is", ("var", "x"))):
                self.same_after(session, BadCondition, lambda: call(thing))
            self.same_after(session, BadCondition, lambda: call(THERE))

    def test_forty_deeds_and_one_more(self):
        session = Session(X)
        for _ in range(20):
            session.do(COINS)
            session.see(TRUE)
        self.assertEqual(len(session), 40)
        self.same_after(session, Full, lambda: session.do(COINS))
        self.same_after(session, Full, lambda: session.see(TRUE))
        self.same_after(session, BadProgram, lambda: session.do(None))
        self.same_after(session, HasChoices, lambda: session.do((XY, CHOICE)))
        self.same_after(session, NotAlike, lambda: session.do((XY, COIN)))
        self.same_after(session, BadCondition, lambda: session.see(None))
        self.same_after(session, BadCondition, lambda: session.see(THERE))
        session.undo()
        session.see(X_IS_0)
        self.same_after(session, Full, lambda: session.see(TRUE))

    def test_deeds(self):
        session = Session(X)
        session.do(COINS)
        session.see(X_IS_0)
        self.assertEqual(session.deeds(), [COINS, ("see", X_IS_0)])
        session.deeds().append("changed")
        session.shares().append("changed")
        self.assertEqual((session.deeds(), session.shares()), ([COINS, ("see", X_IS_0)], [((0,), (1, 1))]))
        self.assertIsNot(session.deeds(), session.deeds())
        self.assertIsNot(session.shares(), session.shares())

    def test_items(self):
        session = Session(X)
        session.do(COINS)
        session.see(X_IS_0)
        self.assertEqual([session[0], session[1]], [COINS, ("see", X_IS_0)])
        for number in (2, -1, 10 ** 30, True, False, None, "0", slice(0, 1), (0,), [0], 0.0):
            self.same_after(session, BadNumber, lambda: session[number])
        session.undo()
        self.same_after(session, BadNumber, lambda: session[1])
        session.undo()
        self.same_after(session, BadNumber, lambda: session[0])

    def test_program(self):
        session = Session(X)
        self.assertEqual(session.program(), (X, SKIP))
        session.see(X_IS_0)
        self.assertEqual(session.program(), (X, ("see", X_IS_0)))
        session.do((X, seq(COIN, SKIP)))
        self.assertEqual(session.program(), (X, seq(("see", X_IS_0), COIN, SKIP)))
        session.do(COINS)
        session.do((X, SKIP))
        self.assertEqual(session.program(), (X, seq(("see", X_IS_0), COIN, SKIP, COIN, SKIP)))
        while len(session):
            session.undo()
        session.do(COINS)
        self.assertEqual(session.program(), COINS)

    def test_program_that_is_none(self):
        session = Session(X)
        thirty = (X, ("seq", (COIN,) * 30))
        session.do(thirty)
        session.do(thirty)
        self.assertEqual(session.program(), (X, ("seq", (COIN,) * 60)))
        session.see(X_IS_0)
        self.same_after(session, BadProgram, session.program)
        session.undo()
        self.assertEqual(session.program(), (X, ("seq", (COIN,) * 60)))

    def test_against_its_program(self):
        for seed in range(40):
            made = Maker(seed, ("skip", "set", "draw", "see", "if", "while"), most=8)
            variables = made.variables()
            names = [name for name, _ in variables]
            shares = [(state, (made.random.randint(1, 5), made.random.randint(1, 5))) for state in states_of(variables)
                      if made.random.random() < 0.7] or [(states_of(variables)[0], (2, 3))]
            session = Session(variables, shares)
            for _ in range(made.random.randint(0, 5)):
                if made.random.random() < 0.4:
                    session.see(made.condition(names))
                else:
                    session.do((variables, made.statement(names, 2)))
                if made.random.random() < 0.3:
                    session.undo()
            whole = session.program()
            behind, refused, endless = ahead(whole, shares)
            self.assertEqual(session.shares(), behind)
            first = sum(Fraction(*share) for _, share in shares)
            self.assertEqual(session.weight(), pair((first - Fraction(*refused)) / first))
            self.assertEqual(session.chance_never(), chance_never(whole, shares))
            for condition in (X_IS_0, NEVER, made.condition(names)):
                if "x" in names:
                    self.assertEqual(session.chance(condition), chance(whole, shares, condition))
            total = sum(Fraction(*share) for _, share in behind) + Fraction(*endless)
            self.assertEqual(chances(whole, shares), [(state, pair(Fraction(*share) / total)) for state, share in behind])

    def test_equal_and_unlike(self):
        session = Session(X, SHARES)
        self.assertTrue(session == Session(X, [((0,), (1, 2)), ((1,), (6, 4))]))
        self.assertFalse(session != Session(X, SHARES))
        self.assertTrue(Session(X) == Session(X, [((0,), (1, 1)), ((1,), (2, 2))]))
        unlike = [Session(X), Session(X, [((0,), (1, 1)), ((1,), (3, 1))]), Session(X, SHARES[:1]), Session((("y", 2),), SHARES),
                  Session((("x", 3),), SHARES)]
        for other in unlike:
            self.assertFalse(session == other)
            self.assertTrue(session != other)
        for other in (None, 0, [], SHARES, session.deeds(), session.shares(), "Session", object(), *OTHERS):
            self.assertFalse(session == other)
            self.assertTrue(session != other)

    def test_equal_by_their_deeds(self):
        one, other = Session(X), Session(X)
        for session in (one, other):
            session.do(COINS)
        self.assertTrue(one == other)
        one.see(X_IS_0)
        self.assertFalse(one == other)
        other.see(("not", X_IS_1))
        self.assertEqual(one.shares(), other.shares())
        self.assertFalse(one == other)
        other.undo()
        other.see(X_IS_0)
        self.assertTrue(one == other)
        one.undo()
        one.do((X, ("see", X_IS_0)))
        self.assertFalse(one == other)

    def test_copy(self):
        session = Session(X, SHARES)
        session.do(COINS)
        other = session.copy()
        self.assertEqual(other, session)
        self.assertEqual(told(other), told(session))
        other.see(X_IS_0)
        self.assertNotEqual(other, session)
        self.assertEqual((len(session), len(other)), (1, 2))
        session.undo()
        self.assertEqual(other.deeds(), [COINS, ("see", X_IS_0)])
        other.undo()
        other.undo()
        self.assertEqual(other, session)
        self.assertEqual(other.shares(), session.shares())
        self.assertEqual(other.weight(), (1, 1))

    def test_what_was_handed_in_may_be_changed(self):
        shares = list(SHARES)
        session = Session(X, shares)
        before = frozen(shares)
        session.do(COINS)
        self.assertEqual(frozen(shares), before)
        shares.clear()
        session.undo()
        self.assertEqual(session, Session(X, SHARES))
        self.assertEqual(session.weight(), (1, 1))

    def test_best_look(self):
        shares = [((0, 0), (4, 1)), ((0, 1), (1, 1)), ((1, 0), (2, 1)), ((2, 0), (2, 1))]
        session = Session(XY3, shares)
        # Told x: 4 + 2 + 2 of 9 rightly, told y: 4 + 1.
        self.assertEqual(session.best_look(("x", "y")), "x")
        self.assertEqual(session.best_look(("y", "x")), "x")
        self.assertEqual(session.best_look(("y",)), "y")
        self.assertEqual(session.best_look(names=("x",)), "x")
        session.see(("is", ("var", "y"), ("num", 0)))
        self.assertEqual(session.best_look(("y", "x")), "x")
        session.see(X_IS_0)
        self.assertEqual(session.best_look(("y", "x")), "y")

    def test_best_look_with_ties(self):
        session = Session(XY)
        self.assertEqual(session.best_look(("y", "x")), "y")
        self.assertEqual(session.best_look(("x", "y")), "x")
        session = Session(XY, [((0, 0), (1, 1)), ((1, 1), (5, 1))])
        self.assertEqual([session.best_look(names) for names in (("x", "y"), ("y", "x"))], ["x", "y"])

    def test_best_look_asks_the_shares_alone(self):
        session = Session(ENDLESS[0])
        session.do(ENDLESS)
        self.assertEqual(session.best_look(("x",)), "x")
        session.see(NEVER)
        self.assertEqual(session.chance_never(), (1, 1))
        self.assertIsNone(session.best_look(("x",)))

    def test_best_look_at_wrong_names(self):
        for session in (Session(XY), Session(XY)):
            for names in ((), None, ["x"], "x", ("x", "x"), ("q",), ("x", "q"), ("if",), (0,)):
                self.same_after(session, BadNames, lambda: session.best_look(names))
            session.see(NEVER)
            self.same_after(session, BadNames, lambda: session.best_look(("q",)))

    def test_made_up_looks(self):
        for seed in range(30):
            made = Maker(seed)
            variables = made.variables()
            names = tuple(name for name, _ in variables)
            shares = [(state, (made.random.randint(1, 4), made.random.randint(1, 3))) for state in states_of(variables)
                      if made.random.random() < 0.6] or [(states_of(variables)[0], (1, 1))]
            rightly = []
            for place in range(len(names)):
                by_value = {}
                for state, share in shares:
                    by_value.setdefault(state[place], []).append(Fraction(*share))
                rightly.append(sum(max(parts) for parts in by_value.values()))
            wanted = names[rightly.index(max(rightly))]
            self.assertEqual(Session(variables, shares).best_look(names), wanted)

    def test_by_position_and_by_names(self):
        session = Session(variables=X, shares=SHARES)
        session.do(program=COINS)
        session.see(condition=X_IS_0)
        self.assertEqual(session.chance(condition=X_IS_0), session.chance(X_IS_0))
        other = Session(X, SHARES)
        other.do(COINS)
        other.see(X_IS_0)
        self.assertEqual(session, other)


if __name__ == "__main__":
    unittest.main()
