"""Runs drawn by tickets (18, 19)."""

import math
import unittest
from fractions import Fraction

from alikechances.errors import (
    BadNumber,
    BadProgram,
    BadState,
    BadTickets,
    BadWorld,
    HasChoices,
    HasLoops,
    TooMany,
)
from alikechances.programs import states_of
from alikechances.tickets import by_ticket, run_by, tickets_least, tickets_of
from alikechances.worlds import run_world, worlds
from tests import reference
from tests.helpers import (
    CHOICE,
    COIN,
    LOOP,
    ONE,
    OTHERS,
    SKIP,
    TRUE,
    X,
    X_IS_0,
    XY,
    ZERO,
    ifs,
    nested,
    program,
    seq,
    whiles,
)

DRAWN = program("draw x from 0 weight 2, 1 weight 3, 0 weight 1")
SIX = ("draw", "x", ((ZERO, 1), (ONE, 1)) * 3)


class Stop(Exception):
    pass


def run(made, state, tickets, most=1000):
    """How a program runs by tickets, told once more: each act is asked for ahead of it, and raises what ends the run."""
    variables, statement = made
    values = {name: value for (name, _), value in zip(variables, state)}
    told = {"used": 0, "acts": 0}

    def act():
        if told["acts"] == most:
            raise Stop(("turns", told["used"]))
        told["acts"] += 1

    def put(name, expression):
        values[name] = reference.number(expression, values) % dict(variables)[name]

    def ticket(whole):
        if told["used"] == len(tickets):
            raise Stop(("wants", whole, told["used"]))
        if tickets[told["used"]] >= whole:
            raise BadTickets(told["used"])
        told["used"] += 1
        return tickets[told["used"] - 1]

    def do(part):
        kind = part[0]
        if kind == "seq":
            for inner in part[1]:
                do(inner)
        elif kind == "set":
            act()
            put(part[1], part[2])
        elif kind == "draw":
            act()
            stretch = [expression for expression, weight in part[2] for _ in range(weight)]
            put(part[1], stretch[ticket(len(stretch))])
        elif kind == "see":
            act()
            if not reference.truth(part[1], values):
                raise Stop(("refused", told["used"]))
        elif kind == "if":
            act()
            do(part[2] if reference.truth(part[1], values) else part[3])
        elif kind == "while":
            act()
            while reference.truth(part[1], values):
                do(part[2])
                act()

    try:
        do(statement)
    except Stop as stop:
        return stop.args[0]
    return ("ended", tuple(values[name] for name, _ in variables), told["used"])


class RunByTest(unittest.TestCase):
    def test_ended(self):
        for ticket, value in enumerate((0, 0, 1, 1, 1, 0)):
            self.assertEqual(run_by(DRAWN, (1, 1), [ticket]), ("ended", (value, 1), 1))
        self.assertEqual(run_by(program=DRAWN, state=(1, 1), tickets=[2]), ("ended", (1, 1), 1))
        self.assertEqual(run_by((X, SKIP), (1,), []), ("ended", (1,), 0))
        self.assertEqual(run_by((X, SKIP), (1,), [5, 6]), ("ended", (1,), 0))
        self.assertEqual(run_by(DRAWN, (1, 1), [5, 99]), ("ended", (0, 1), 1))
        self.assertEqual(run_by(program("x := (x + 1)", "x 3"), (2,), []), ("ended", (0,), 0))
        self.assertEqual(run_by(program("x := (x - 2)", "x 3"), (1,), []), ("ended", (2,), 0))

    def test_draws_of_one_pair_take_a_ticket_too(self):
        one = program("draw x from 1 weight 3", "x 2")
        for ticket in range(3):
            self.assertEqual(run_by(one, (0,), [ticket]), ("ended", (1,), 1))
        self.assertEqual(run_by(one, (0,), []), ("wants", 3, 0))
        with self.assertRaises(BadTickets) as caught:
            run_by(one, (0,), [3])
        self.assertEqual(caught.exception.place, 0)

    def test_refused(self):
        made = program("draw x from 0 weight 1, 1 weight 1; see (x is 0); draw y from 0 weight 1, 1 weight 1")
        self.assertEqual(run_by(made, (0, 0), [1]), ("refused", 1))
        self.assertEqual(run_by(made, (0, 0), [1, 5, 5]), ("refused", 1))
        self.assertEqual(run_by(made, (0, 0), [0, 1]), ("ended", (0, 1), 2))
        self.assertEqual(run_by(program("see not true"), (0, 0), []), ("refused", 0))

    def test_wants(self):
        made = program("draw x from 0 weight 1, 1 weight 1; draw y from 0 weight 50, 1 weight 60")
        self.assertEqual(run_by(made, (0, 0), []), ("wants", 2, 0))
        self.assertEqual(run_by(made, (0, 0), [1]), ("wants", 110, 1))
        self.assertEqual(run_by(made, (0, 0), [1, 49]), ("ended", (1, 0), 2))
        self.assertEqual(run_by(made, (0, 0), [1, 50]), ("ended", (1, 1), 2))
        self.assertEqual(run_by((X, LOOP), (0,), [0, 0, 0]), ("wants", 2, 3))
        self.assertEqual(run_by((X, LOOP), (0,), [0, 0, 0, 1]), ("ended", (1,), 4))

    def test_turns_behind_just_a_thousand_acts(self):
        self.assertEqual(run_by((X, ("while", TRUE, SKIP)), (0,), [9]), ("turns", 0))
        self.assertEqual(run_by((X, ("while", X_IS_0, COIN)), (0,), [0] * 600), ("turns", 500))
        self.assertEqual(run_by((X, ("while", X_IS_0, COIN)), (0,), [0] * 500), ("turns", 500))
        # Asked and drawn 499 times come to 998 acts, then asked once more: the draw is the thousandth.
        self.assertEqual(run_by((X, ("while", X_IS_0, COIN)), (0,), [0] * 499), ("wants", 2, 499))
        self.assertEqual(run_by((X, LOOP), (0,), [0] * 499 + [1]), ("turns", 500))
        self.assertEqual(run_by((X, LOOP), (0,), [0] * 498 + [1]), ("ended", (1,), 499))

    def test_the_thousandth_act_is_done(self):
        # A round of one act and one question, the set ahead of all: 1 + 2 n + 1 acts.
        counted = "while (x is 0) do (draw x from 0 weight 1, 1 weight 1)"
        ending = [0] * 498 + [1]
        self.assertEqual(run_by(program(counted, "x 2"), (0,), ending), ("ended", (1,), 499))
        self.assertEqual(run_by(program(counted + "; skip; skip", "x 2"), (0,), ending), ("ended", (1,), 499))
        self.assertEqual(run_by(program(counted + "; x := 0", "x 2"), (0,), ending), ("ended", (0,), 499))
        self.assertEqual(run_by(program(counted + "; x := 0; see (x is 1)", "x 2"), (0,), ending), ("turns", 499))
        self.assertEqual(run_by(program(counted + "; see (x is 0)", "x 2"), (0,), ending), ("refused", 499))
        self.assertEqual(run_by(program(counted + "; draw x from 0 weight 7", "x 2"), (0,), ending), ("wants", 7, 499))
        self.assertEqual(run_by(program(counted + "; x := 0; draw x from 0 weight 7", "x 2"), (0,), ending), ("turns", 499))
        self.assertEqual(run_by(program(counted + "; x := 0; draw x from 0 weight 7", "x 2"), (0,), ending + [9]), ("turns", 499))
        self.assertEqual(run_by(program(counted + "; x := 0; if true then (skip) else (skip)", "x 2"), (0,), ending), ("turns", 499))
        self.assertEqual(run_by(program(counted + "; if true then (skip) else (skip)", "x 2"), (0,), ending), ("ended", (1,), 499))

    def test_tickets_that_are_none(self):
        for tickets in OTHERS + ((1, 2), (), None, "12", {0: 1}, 5, nested(99)):
            if isinstance(tickets, list):
                continue
            self.place(-1, DRAWN, (0, 0), tickets)
        for tickets, place in (([-1], 0), ([0, -1], 1), ([True], 0), ([0, 1, False, None], 2), ([None], 0), (["0"], 0), ([[0]], 0),
                               ([(0,)], 0), ([9, 9, 9, -1], 3), ([nested(99)], 0), ([10 ** 50, -1], 1), ([[]], 0), ([()], 0)):
            self.place(place, DRAWN, (0, 0), tickets)
            self.place(place, (X, SKIP), (0,), tickets)
            self.place(place, (X, ("see", ("not", TRUE))), (0,), tickets)

    def place(self, place, made, state, tickets):
        with self.assertRaises(BadTickets) as caught:
            run_by(made, state, tickets)
        self.assertEqual(caught.exception.place, place)

    def test_a_ticket_that_is_too_great(self):
        made = program("draw x from 0 weight 1, 1 weight 1; see (x is 0); draw y from 0 weight 1, 1 weight 2")
        self.place(0, made, (0, 0), [2, 9])
        self.place(1, made, (0, 0), [0, 3])
        self.assertEqual(run_by(made, (0, 0), [1, 3]), ("refused", 1))
        self.assertEqual(run_by(made, (0, 0), [0, 2, 99]), ("ended", (0, 1), 2))
        self.place(0, made, (0, 0), [10 ** 50])

    def test_against_another_run(self):
        kinds = {"ended": 0, "refused": 0, "wants": 0, "turns": 0, "bad": 0}
        for seed in range(400):
            maker = reference.Maker(seed, ("set", "draw", "draw", "while", "see", "if", "skip"), most=12)
            made = maker.program(5)
            state = maker.random.choice(states_of(made[0]))
            tickets = [maker.random.randint(0, 2) for _ in range(maker.random.choice((0, 1, 3, 2000)))]
            before = list(tickets)
            try:
                expected = run(made, state, tickets)
            except BadTickets as error:
                kinds["bad"] += 1
                self.place(error.place, made, state, tickets)
                continue
            kinds[expected[0]] += 1
            self.assertEqual(run_by(made, state, tickets), expected)
            self.assertEqual(tickets, before)
        self.assertGreater(min(kinds.values()), 4, kinds)

    def test_the_shares_of_drawn_runs_are_right(self):
        made = program("draw x from 0 weight 1, 1 weight 2; if (x is 0) then (draw y from 0 weight 3, 1 weight 1) else (see (y is 1))")
        for state, line in zip(states_of(XY), reference.table(made)):
            whole = 12
            ended = [run_by(made, state, [one, other])[:2] for one in range(3) for other in range(4)]
            for behind, weight in zip(states_of(XY), line[0]):
                self.assertEqual(Fraction(ended.count(("ended", behind)), whole), Fraction(*weight))
            self.assertEqual(Fraction(sum(end[0] == "refused" for end in ended), whole), Fraction(*line[1]))

    def test_errors(self):
        for made, error in (((X, CHOICE), HasChoices), ((X, ("while", X_IS_0, CHOICE)), HasChoices), ((X, seq(SKIP)), BadProgram),
                            (None, BadProgram), (nested(99), BadProgram)):
            with self.assertRaises(error):
                run_by(made, (0,), [])
        for state in ((), (0,), (0, 0, 0), (0, 2), (-1, 0), [0, 0], (True, 0), None, nested(99)):
            with self.assertRaises(BadState):
                run_by(DRAWN, state, [0])


class TicketsOfTest(unittest.TestCase):
    def test_the_least_of_each_stretch(self):
        made = program("draw x from 0 weight 2, 1 weight 3, 0 weight 1; if (x is 0) then (draw y from 1 weight 5) else "
                       "(draw y from 0 weight 4, 1 weight 9)")
        self.assertEqual(tickets_of(made, (0, 0), (0, 0)), [0, 0])
        self.assertEqual(tickets_of(made, (0, 0), (2, 0)), [5, 0])
        self.assertEqual(tickets_of(made, (0, 0), (1, 0)), [2, 0])
        self.assertEqual(tickets_of(program=made, state=(0, 0), world=(1, 1)), [2, 4])
        self.assertEqual(tickets_of((X, SKIP), (0,), ()), [])

    def test_refused(self):
        made = program("draw x from 0 weight 1, 1 weight 1; see (x is 0); draw y from 0 weight 1, 1 weight 1")
        self.assertEqual(tickets_of(made, (0, 0), (1,)), [1])
        self.assertEqual(tickets_of(made, (0, 0), (0, 1)), [0, 1])

    def test_they_lead_to_the_end_of_the_world(self):
        tried = 0
        for seed in range(120):
            maker = reference.Maker(seed, ("skip", "set", "draw", "draw", "see", "if", "seq"), most=12)
            made = maker.program(3)
            state = maker.random.choice(states_of(made[0]))
            try:
                found = worlds(made, state)
            except TooMany:
                continue
            for world, _, end in found[:40]:
                tried += 1
                tickets = tickets_of(made, state, world)
                self.assertEqual(len(tickets), len(world))
                if end is None:
                    self.assertEqual(run_by(made, state, tickets), ("refused", len(world)))
                else:
                    self.assertEqual(run_by(made, state, tickets), ("ended", end, len(world)))
                    self.assertEqual(run_world(made, state, world)[-1], end)
        self.assertGreater(tried, 300)

    def test_bad_worlds(self):
        made = program("draw x from 0 weight 1, 1 weight 1; see (x is 1); draw y from 0 weight 1, 1 weight 1")
        for world in OTHERS + ((0, 0), (1,), (1, 2), (2,), (1, 0, 0), (1, -1), [1, 0], (True, 0), (1, False), None, nested(99)):
            with self.assertRaises(BadWorld):
                tickets_of(made, (0, 0), world)

    def test_errors(self):
        for statement, error in ((LOOP, HasLoops), (CHOICE, HasChoices), (seq(CHOICE, LOOP), HasLoops), (ifs(2, CHOICE), HasChoices),
                                 (seq(SKIP), BadProgram)):
            with self.assertRaises(error):
                tickets_of((X, statement), (0,), ())
        for state in ((), (0, 0), (2,), [0], (True,), None):
            with self.assertRaises(BadState):
                tickets_of((X, SKIP), state, ())

    def test_new_lists(self):
        first = tickets_of((X, COIN), (0,), (1,))
        first.append(5)
        self.assertEqual(tickets_of((X, COIN), (0,), (1,)), [1])


class ByTicketTest(unittest.TestCase):
    # From (0, 0): (0, 0) 1/4, (1, 0) 1/6, refused 1/4, endless 1/3.
    mixed = program("draw x from 0 weight 3, 1 weight 2, 2 weight 3, 3 weight 4; see not (x is 2); while (x is 3) do (skip)", "x 4, y 2")

    def test_the_least_number(self):
        self.assertEqual(tickets_least((X, SKIP), (0,)), 1)
        self.assertEqual(tickets_least(program=(X, COIN), state=(0,)), 2)
        self.assertEqual(tickets_least((X, LOOP), (0,)), 1)
        self.assertEqual(tickets_least((X, ("while", TRUE, SKIP)), (0,)), 1)
        self.assertEqual(tickets_least((X, ("see", X_IS_0)), (1,)), 1)
        self.assertEqual(tickets_least(self.mixed, (0, 0)), 12)
        self.assertEqual(tickets_least(program("draw x from 0 weight 2, 1 weight 4", "x 2"), (0,)), 3)
        self.assertEqual(tickets_least(program("draw x from 0 weight 1, 1 weight 2, 2 weight 3", "x 3"), (0,)), 6)
        self.assertEqual(tickets_least((X, ("seq", (SIX,) * 60)), (0,)), 2)

    def test_great_numbers(self):
        draw = "draw x from 0 weight 99, 1 weight 98"
        made = program("; ".join([f"see (x is 0); {draw}"] * 30), "x 2")
        self.assertEqual(tickets_least(made, (0,)), 197 ** 30)
        with self.assertRaises(TooMany):
            by_ticket(made, (0,), 0)
        with self.assertRaises(BadNumber):
            by_ticket(made, (0,), 197 ** 30)

    def test_each_ticket(self):
        told = [by_ticket(self.mixed, (0, 1), number) for number in range(12)]
        self.assertEqual(told, [("ended", (0, 1))] * 3 + [("ended", (1, 1))] * 2 + [("refused",)] * 3 + [("endless",)] * 4)
        self.assertEqual(by_ticket(program=self.mixed, state=(0, 1), number=11), ("endless",))
        self.assertEqual(by_ticket((X, SKIP), (1,), 0), ("ended", (1,)))
        self.assertEqual(by_ticket((X, ("while", TRUE, SKIP)), (1,), 0), ("endless",))
        self.assertEqual(by_ticket((X, ("see", X_IS_0)), (1,), 0), ("refused",))

    def test_bad_numbers(self):
        for number in (12, 13, -1, True, False, None, "0", (0,), [0], 10 ** 50, nested(99)):
            with self.assertRaises(BadNumber):
                by_ticket(self.mixed, (0, 0), number)

    def test_ten_thousand_and_more(self):
        # 100 times 100 and 101 times 100 tickets, all weights side by side.
        text = "draw x from 0 weight 1, 1 weight {}; if (x is 0) then (draw x from 0 weight 1, 2 weight 99) else (skip)"
        self.assertEqual(tickets_least(program(text.format(99), "x 3"), (0,)), 10000)
        self.assertEqual(by_ticket(program(text.format(99), "x 3"), (0,), 0), ("ended", (0,)))
        self.assertEqual(by_ticket(program(text.format(99), "x 3"), (0,), 1), ("ended", (1,)))
        self.assertEqual(by_ticket(program(text.format(99), "x 3"), (0,), 9999), ("ended", (2,)))
        one_more = program("draw x from 0 weight 1, 1 weight 72; if (x is 0) then (draw x from 0 weight 1, 2 weight 99, 3 weight 37) "
                           "else (skip)", "x 4")
        self.assertEqual(tickets_least(one_more, (0,)), 10001)
        with self.assertRaises(TooMany):
            by_ticket(one_more, (0,), 0)
        more = program("draw x from 0 weight 1, 1 weight 99, 3 weight 1; if (x is 0) then (draw x from 0 weight 1, 2 weight 99) "
                       "else (skip)", "x 4")
        self.assertEqual(tickets_least(more, (0,)), 10100)
        for number, error in ((0, TooMany), (10099, TooMany), (10100, BadNumber), (-1, BadNumber)):
            with self.assertRaises(error):
                by_ticket(more, (0,), number)

    def test_against_the_tables(self):
        tried = 0
        for seed in range(200):
            made = reference.Maker(seed, most=9).program(4)
            for state, line in list(zip(states_of(made[0]), reference.table(made)))[:3]:
                weights = (*line[0], line[1], line[2])
                least = math.lcm(*[below for _, below in weights])
                self.assertEqual(tickets_least(made, state), least)
                if least > 300:
                    continue
                tried += least > 1
                outcomes = [("ended", behind) for behind in states_of(made[0])] + [("refused",), ("endless",)]
                expected = [outcome for outcome, (above, below) in zip(outcomes, weights) for _ in range(above * least // below)]
                self.assertEqual([by_ticket(made, state, number) for number in range(least)], expected)
                with self.assertRaises(BadNumber):
                    by_ticket(made, state, least)
        self.assertGreater(tried, 50)

    def test_errors(self):
        for function in (tickets_least, lambda made, state: by_ticket(made, state, 0)):
            for made, error in (((X, CHOICE), HasChoices), ((X, seq(LOOP, CHOICE)), HasChoices), ((X, seq(SKIP)), BadProgram),
                                (None, BadProgram), (nested(99), BadProgram)):
                with self.assertRaises(error):
                    function(made, (0,))
            for state in ((), (0, 0), (2,), [0], (True,), None):
                with self.assertRaises(BadState):
                    function((X, whiles(3)), state)


if __name__ == "__main__":
    unittest.main()
