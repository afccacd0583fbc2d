"""The desk (41)."""

import unittest

from alikechances.desk import Desk
from alikechances.errors import (
    BadCommand,
    BadProgram,
    BadText,
    ChanceError,
    Full,
    HasChoices,
    NothingToUndo,
)
from alikechances.same import parting
from alikechances.session import Session
from alikechances.tables import table
from alikechances.texts import write_program
from tests.helpers import OTHERS, X, program
from tests.reference import Maker

DRAWN = "do draw x from 0 weight 1, 1 weight 2"
LOST = "do draw x from 0 weight 1, 1 weight 1, 2 weight 1; while (x is 2) do (skip)"


def desk(*rows):
    """A desk to which rows were said."""
    found = Desk()
    for row in rows:
        found.say(row)
    return found


class DeskTest(unittest.TestCase):
    def answers(self, rows, wanted):
        found = Desk()
        self.assertEqual([found.say(row) for row in rows], wanted)
        return found

    def wrong(self, found, row, error, place=None):
        """A row that raises an error, behind which nothing has changed."""
        before = found.session()
        with self.assertRaises(ChanceError) as caught:
            found.say(row)
        self.assertIs(type(caught.exception), error, row)
        if place is not None:
            self.assertEqual(caught.exception.place, place, row)
        self.assertEqual(found.session(), before)
        self.assertEqual(found.session().shares(), before.shares())

    def test_at_first(self):
        self.assertEqual(Desk().session(), Session(X))
        self.answers(["states", "weight", "never", "table", "chance (x is 0)"], ["0 1", "1/1", "0/1", "2", "1/2"])

    def test_do_see_and_undo(self):
        self.answers(
            [DRAWN, "chance (x is 1)", "see (x is 0)", "weight", "states", "undo", "weight", "undo", "chance (x is 1)"],
            ["ok", "2/3", "ok", "1/3", "0", "ok", "1/1", "ok", "1/2"],
        )
        found = self.answers(["do skip; x := 1; see (x is 1)", "states"], ["ok", "1"])
        self.assertEqual(found.session().deeds(), [program("skip; x := 1; see (x is 1)", "x 2")])
        self.assertEqual(desk("see ((x is 0) or true)").session().deeds(), [("see", ("or", ("is", ("var", "x"), ("num", 0)), ("true",)))])

    def test_vars(self):
        found = self.answers(["vars x 2, y 3", "states", "see (y is 2)", "vars long1 4", "states", "weight"],
                             ["ok", "0,0 0,1 0,2 1,0 1,1 1,2", "ok", "ok", "0 1 2 3", "1/1"])
        self.assertEqual(found.session(), Session((("long1", 4),)))
        self.wrong(found, "undo", NothingToUndo)
        self.wrong(found, "see (x is 0)", BadProgram)
        self.answers(["vars a 2,b 2 , c 2\n,d 3", "chance (d is 0)"], ["ok", "1/3"])

    def test_never_weight_and_none(self):
        self.answers(["vars x 3", LOST, "never", "see (x is 0)", "never", "weight", "chance (x is 0)", "states"],
                     ["ok", "ok", "1/3", "ok", "1/2", "2/3", "1/2", "0"])
        self.answers(["see not true", "never", "chance true", "weight", "states", "table", "undo", "chance true"],
                     ["ok", "none", "none", "0/1", "none", "0", "ok", "1/1"])

    def test_states(self):
        self.answers(["vars x 2, y 2, z 2", "see ((x is y) and (y is z))", "states"], ["ok", "ok", "0,0,0 1,1,1"])
        self.answers(["vars x 6", "states", "see (x is 5)", "states", "see (x is 4)", "states"],
                     ["ok", "0 1 2 3 4 5", "ok", "5", "ok", "none"])

    def test_alike(self):
        self.answers(
            ["vars x 2, y 2", "alike draw x from 0 weight 1, 1 weight 1; see (x is y) | x := y",
             "alike x := y | see (y is 0); x := y", "alike x := y | skip", "alike skip | skip; skip",
             "alike if (x is 0) then (draw y from 0 weight 1, 1 weight 1; see (y is 0)) else (y := 0) | y := 0",
             "alike while true do (skip) | skip", "alike while true do (skip) | see not true"],
            ["ok", "yes", "no 0,1 is", "no 0,1 is", "yes", "no 0,0 1,0 was", "no 0,0 is", "no 0,0 is"],
        )
        self.answers(["alike x := 0 | draw x from 0 weight 3", "alike x := 0 | x := 1", "alike see (x is 0) | skip"],
                     ["yes", "no 0 is", "no 1 is"])
        # What was done before does not matter.
        self.answers(["see (x is 0)", "alike x := x | x := 0"], ["ok", "no 1 is"])

    def test_alike_against_parting(self):
        words = set()
        for seed in range(60):
            made = Maker(seed, ("set", "draw", "see", "if", "while"), most=6)
            variables = made.variables()
            names = [name for name, _ in variables]
            pair = [(variables, made.statement(names, 2)) for _ in range(2)]
            found = desk("vars " + ", ".join(f"{name} {size}" for name, size in variables))
            texts = [write_program(one).partition("; ")[2] for one in pair]
            answer = found.say(f"alike {texts[0]} | {texts[1]}")
            told = parting(*pair)
            if told is None:
                self.assertEqual(answer, "yes")
            else:
                states = " ".join(",".join(map(str, state)) for state in told[0])
                self.assertEqual(answer, f"no {states} {told[1][0]}")
            words.add(answer.split()[-1])
        self.assertLessEqual({"yes", "is"}, words)

    def test_table(self):
        self.answers(["vars x 3", "table", "see (x is 0)", "table", "undo", LOST, "table", "see (x is 0)", "table",
                      "do while (x is 0) do (skip)", "table"],
                     ["ok", "3", "ok", "1", "ok", "ok", "3", "ok", "3", "ok", "3"])
        self.answers(["vars x 3", "see not (x is 1)", "do while (x is 0) do (skip)", "see (x is 1)", "table", "weight", "states"],
                     ["ok", "ok", "ok", "ok", "1", "1/3", "none"])

    def test_program_that_is_none(self):
        thirty = "do " + "; ".join(["x := 0"] * 30)
        found = desk(thirty, thirty, "see (x is 0)")
        self.wrong(found, "table", BadProgram)
        self.assertEqual(found.say("weight"), "1/1")
        found.say("undo")
        self.assertEqual(found.say("table"), "2")

    def test_commands_that_are_none(self):
        rows = ["", " ", "vars", "vars ", "do", "do ", "see", "see ", "chance", "chance ", "alike", "alike ", "alike x := 0",
                "alike x := 0 |", "alike x := 0 | ", "alike  | x := 0", "alike | x := 0", "alike x := 0|x := 1", "undo ", "undo 1",
                "never ", "never x", "weight x", "states x", "table x", "table ", " undo", "Undo", "undo\n", "look x", "do\nx := 0",
                "do\tx := 0", "x := 0", "vars\nx 2", "session", "alikex := 0 | x := 1", b"undo", ("undo",), ["undo"], None, 0, True]
        for row in rows + list(OTHERS):
            self.wrong(desk(DRAWN), row, BadCommand)

    def test_places_of_wrong_words(self):
        for row, place in (
            ("do x = 0", 2), ("do  x = 0", 3), ("do skip;", 5), ("do x := 0 y := 1", 7), ("do vars x 2; skip", 0), ("do  ", 1),
            ("do (x := 0)", 0), ("do skip; )", 6), ("do x := 00", 5), ("do X := 0", 0), ("do x := 0 | skip", 7),
            ("see x is 0", 0), ("see (x is 0", 7), ("see (x is 0))", 8), ("see (x)", 2), ("see 0", 0), ("see skip", 0), ("see  ", 1),
            ("see (x is 0); skip", 8), ("chance not", 3), ("chance (x + 1)", 3), ("chance ((x + 1))", 8), ("chance true true", 5),
            ("vars 2 x", 0), ("vars x", 1), ("vars x 2;", 3), ("vars x 2,", 4), ("vars x 2 y 2", 4), ("vars x 2, if 2", 5),
            ("vars x 123", 2), ("vars  x", 2), ("vars abcdefghijk 2", 0), ("vars x 2; skip", 3), ("do \n", 1),
        ):
            self.wrong(desk(DRAWN), row, BadText, place)

    def test_places_in_both_texts_of_alike(self):
        for row, place in (
            ("alike x = 0 | y = 0", 2), ("alike x := 0 | skip skip", 5), ("alike x := 0 |  skip skip", 6),
            ("alike x := 0  | skip; ", 6), ("alike x := | skip", 4), ("alike x := 0 | skip | skip", 5), ("alike  x | skip", 2),
            ("alike   | skip", 1), ("alike skip |  ", 1),
        ):
            self.wrong(desk(DRAWN), row, BadText, place)
        # The first is looked at as a whole ahead of the second; both ahead of what they mean.
        self.wrong(desk(), "alike x := 0; | skip " + "\t", BadText, 7)
        self.wrong(desk(), "alike q := 0 | skip skip", BadText, 5)

    def test_texts_that_are_none(self):
        for text in ("x := 0\t", "x := \u00e9", "\r", "x := 0 \x7f", "x := 0\x00"):
            self.wrong(desk(DRAWN), f"do {text}", BadText, -1)
            self.wrong(desk(DRAWN), f"alike {text} | skip skip", BadText, -1)
            self.wrong(desk(DRAWN), f"alike skip | {text}", BadText, -1)
        for command in ("vars", "see", "chance"):
            self.wrong(desk(DRAWN), f"{command} \t", BadText, -1)

    def test_four_thousand_characters_and_one_more(self):
        blanks = " " * 3994
        self.answers([f"do x := 1{blanks}", "states", f"do \n{blanks[1:]}x := 0", "states"], ["ok", "1", "ok", "0"])
        self.wrong(desk(DRAWN), f"do x := 1 {blanks}", BadText, -1)
        self.wrong(desk(DRAWN), f"do x :=   {blanks}", BadText, -1)
        self.wrong(desk(DRAWN), f"see true{blanks}   ", BadText, -1)
        self.answers([f"see true{blanks}  ", f"vars x 3{blanks} "], ["ok", "ok"])
        self.answers([f"alike x := 1{blanks} | x := 1{blanks}"], ["yes"])
        self.wrong(desk(DRAWN), f"alike skip | x := 1 {blanks}", BadText, -1)

    def test_what_is_no_program(self):
        for row in ("do q := 0", "do see (q is 0)", "do x := 0; draw x from 0 weight 0", "do " + "; ".join(["skip"] * 61),
                    "do " + "if true then (" * 12 + "skip" + ") else (skip)" * 12, "see (q is 0)", "see " + "not " * 10 + "true",
                    "chance (x is q)", "chance " + "not " * 10 + "true", "vars x 1", "vars x 7", "vars x 2, x 2", "vars x 2, y 2, z 2, w 2, v 2",
                    "vars x 6, y 5", "alike q := 0 | skip", "alike skip | q := 0", "alike choose x from 0 | q := 0",
                    "alike q := 0 | choose x from 0", "do choose q from 0"):
            self.wrong(desk(DRAWN), row, BadProgram)
        self.answers(["do " + "; ".join(["skip"] * 60), "see " + "not " * 9 + "true"], ["ok", "ok"])

    def test_choices(self):
        for row in ("do choose x from 0, 1", "do skip; if true then (choose x from 0) else (skip)", "alike choose x from 0 | skip",
                    "alike skip | choose x from 0"):
            self.wrong(desk(DRAWN), row, HasChoices)

    def test_nothing_to_undo(self):
        self.wrong(Desk(), "undo", NothingToUndo)
        self.wrong(desk(DRAWN, "undo"), "undo", NothingToUndo)
        self.wrong(desk(DRAWN, "vars x 2"), "undo", NothingToUndo)

    def test_full(self):
        found = desk(*["see true", DRAWN] * 20)
        for row, error in (("see true", Full), (DRAWN, Full), ("do choose x from 0", HasChoices), ("do q := 0", BadProgram),
                           ("see (q is 0)", BadProgram), ("do x = 0", BadText), ("see", BadCommand)):
            self.wrong(found, row, error)
        self.assertEqual([found.say(row) for row in ("weight", "undo", "see true")], ["1/1", "ok", "ok"])
        self.wrong(found, "see true", Full)
        self.assertEqual(found.say("vars x 2"), "ok")
        self.assertEqual(found.say("see true"), "ok")

    def test_session_is_a_copy(self):
        found = desk(DRAWN)
        session = found.session()
        session.undo()
        session.see(("not", ("true",)))
        self.assertEqual(found.say("weight"), "1/1")
        self.assertEqual(found.session().deeds(), [program("draw x from 0 weight 1, 1 weight 2", "x 2")])
        self.assertIsNot(found.session(), found.session())

    def test_two_desks(self):
        one, other = Desk(), Desk()
        one.say("see (x is 0)")
        self.assertEqual([one.say("states"), other.say("states")], ["0", "0 1"])

    def test_against_a_session(self):
        for seed in range(25):
            made = Maker(seed, ("skip", "set", "draw", "see", "if", "while"), most=8)
            variables = made.variables()
            names = [name for name, _ in variables]
            found, session = Desk(), Session(variables)
            found.say("vars " + ", ".join(f"{name} {size}" for name, size in variables))
            for _ in range(5):
                statement, condition = made.statement(names, 2), made.condition(names)
                text = write_program((variables, statement)).partition("; ")[2]
                asked = write_program((variables, ("see", condition))).partition("; ")[2]
                self.assertEqual([found.say(f"do {text}"), found.say(asked)], ["ok", "ok"])
                session.do((variables, statement))
                session.see(condition)
                if made.random.random() < 0.5:
                    found.say("undo")
                    session.undo()
                told = [session.weight(), session.chance_never(), session.chance(condition)]
                rows = ["weight", "never", f"chance {asked[4:]}"]
                self.assertEqual([found.say(row) for row in rows],
                                 ["none" if part is None else f"{part[0]}/{part[1]}" for part in told])
            self.assertEqual(found.session(), session)
            lines = table(session.program())
            self.assertEqual(found.say("table"), str(sum(refused != (1, 1) for _, refused, _ in lines)))

    def test_by_position_and_by_name(self):
        found = Desk()
        self.assertEqual(found.say(row="states"), found.say("states"))
        self.assertEqual(found.say(row=DRAWN), "ok")
        self.assertEqual(found.session().program(), program(DRAWN[3:], "x 2"))


if __name__ == "__main__":
    unittest.main()
