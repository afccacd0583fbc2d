"""Calls of the functions of stage 5, as in calls.py."""

from alikechances.choices import (
    best_cost,
    bound_holds,
    bound_paper,
    can,
    greatest,
    greatest_way,
    least,
    least_way,
    must,
    nth_way,
    some_way_surely,
    way_holds,
    way_number,
    way_table,
    ways_many,
    worst_cost,
)
from alikechances.costs import cost, costs, loop_gain
from alikechances.errors import (
    BadCondition,
    BadFraction,
    BadNumber,
    BadProgram,
    BadShares,
    BadState,
    BadVars,
    BadWay,
    HasChoices,
    NotAlike,
    TooMany,
)
from alikechances.papers import paper_holds, step_right
from alikechances.passes import bettered, cleared, decided, folded, seen_early, tidied, undrawn
from tests.calls import COINS, FAR, SHARES, THERE
from tests.helpers import CHOICE, COIN, LOOP, SKIP, X, X_IS_0, XY, program, seq

CHOOSING = (X, CHOICE)
PICKING = program("choose x from 0, 1; draw x from x weight 2, 0 weight 1; see (x is 1)", "x 2")
LOOPING = program("while (x is 0) do (choose x from 0, 1; draw x from x weight 3, 0 weight 2)", "x 2")
WAY = ((0, (0,), 1), (0, (1,), 0))
CROWD = (X, ("seq", (CHOICE, LOOP) * 20))
LONG = program("skip; skip; draw x from 1 weight 2, 3 weight 4, (x + 2) weight 6; see (x is 1); see true", "x 2")
STEP = ((), "flat", seq(SKIP, COIN), COIN)
BOUND = bound_paper(PICKING, SHARES, X_IS_0)
ONE_PROGRAM = (("program", None, BadProgram), ("program", CHOOSING, HasChoices))
KINDS = (("program", None, BadProgram), ("shares", [], BadShares), ("condition", None, BadCondition))
FITS = (("shares", FAR, BadShares), ("condition", THERE, BadCondition), ("program", CROWD, TooMany))
ASKED = (
    ("program", None, BadProgram), ("condition", None, BadCondition), ("condition", THERE, BadCondition),
    ("program", CROWD, TooMany),
)
BEGUN = (
    ("program", None, BadProgram), ("state", [0], BadState), ("state", (2,), BadState), ("program", CROWD, TooMany),
)

ORDERS = (
    (step_right, {"variables": X, "thing": STEP}, (("variables", None, BadVars),)),
    (paper_holds, {"program": (X, STEP[2]), "other": COINS, "thing": [STEP]}, (
        ("program", None, BadProgram), ("other", None, BadProgram), ("other", (XY, SKIP), NotAlike),
    )),
    *[(function, {"program": LONG}, (("program", None, BadProgram),)) for function in (
        tidied, folded, undrawn, cleared, decided, bettered, seen_early,
    )],
    (cost, {"program": COINS, "state": (0,)}, (
        ("program", None, BadProgram), ("state", [0], BadState), ("program", CHOOSING, HasChoices),
        ("state", (2,), BadState),
    )),
    (costs, {"program": COINS}, ONE_PROGRAM),
    (loop_gain, {"condition": X_IS_0, "program": LONG}, (
        ("condition", None, BadCondition), ("program", None, BadProgram), ("program", CHOOSING, HasChoices),
        ("condition", THERE, BadCondition),
    )),
    (way_table, {"program": PICKING, "way": WAY}, (("program", None, BadProgram), ("way", WAY[:1], BadWay))),
    (ways_many, {"program": PICKING}, (("program", None, BadProgram),)),
    (way_number, {"program": PICKING, "way": WAY}, (("program", None, BadProgram), ("way", list(WAY), BadWay))),
    (nth_way, {"program": PICKING, "number": 3}, (
        ("program", None, BadProgram), ("number", -1, BadNumber), ("number", 4, BadNumber),
    )),
    *[(function, {"program": PICKING, "shares": SHARES, "condition": X_IS_0}, KINDS + FITS) for function in (
        greatest, least, greatest_way, least_way, bound_paper,
    )],
    (way_holds, {"program": LOOPING, "shares": SHARES, "condition": X_IS_0, "fraction": (0, 5), "thing": WAY}, (
        *KINDS, ("fraction", (1, 0), BadFraction), *FITS,
    )),
    (bound_holds, {"program": PICKING, "shares": SHARES, "condition": X_IS_0, "fraction": (0, 7), "thing": BOUND}, (
        *KINDS, ("fraction", None, BadFraction), *FITS,
    )),
    *[(function, {"program": LOOPING, "condition": X_IS_0}, ASKED) for function in (can, must, some_way_surely)],
    *[(function, {"program": LOOPING, "state": (0,)}, BEGUN) for function in (worst_cost, best_cost)],
)
