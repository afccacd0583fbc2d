"""Calls of the functions of stages 1 and 2, and what can be wrong with each argument."""

from alikechances.ahead import ahead, chance, chance_never, chances
from alikechances.building import around, either, renamed, then, with_vars
from alikechances.errors import (
    BadCondition,
    BadCount,
    BadExpression,
    BadNames,
    BadNumber,
    BadProgram,
    BadShare,
    BadShares,
    BadState,
    BadTable,
    BadValues,
    BadVars,
    BadWorld,
    HasChoices,
    HasLoops,
    NotAlike,
    TooMany,
)
from alikechances.programs import (
    has_choices,
    has_loops,
    holds,
    is_program,
    names_in,
    names_set,
    size_of,
    states_of,
    states_where,
    value_of,
)
from alikechances.tables import is_table, joined, looped, mixed, table
from alikechances.texts import read_program, write_program
from alikechances.values import behind, let_by, never, wanted
from alikechances.worlds import lost, run_world, unrolled, world_of, worlds, worlds_table
from tests.helpers import CHOICE, COIN, LOOP, ONE, SKIP, TRUE, VX, VY, X, XY, ZERO, seq

COINS = (X, COIN)
STAY = table((X, SKIP))
WIDE = table((XY, SKIP))
FULL = (X, ("seq", (SKIP,) * 60))
THERE = ("is", VY, ONE)
SHARES = [((0,), (2, 4)), ((1,), (1, 3))]
FAR = [((0, 0), (1, 1))]
VALUES = ((-1, 2), (3, 3))
SIX = ("draw", "x", ((ZERO, 1), (ONE, 1)) * 3)
MANY = (X, ("seq", (SIX,) * 5))

# A function, good arguments, and what can be wrong, in the order in which it is looked for:
# (parameter, worth, error); several worths of one parameter are not tried together.
ORDERS = (
    (value_of, {"expression": VX, "variables": X, "state": (1,)}, (
        ("expression", None, BadExpression), ("variables", None, BadVars), ("state", [0], BadState),
        ("expression", VY, BadExpression), ("state", (2,), BadState), ("state", (), BadState),
    )),
    (holds, {"condition": TRUE, "variables": X, "state": (1,)}, (
        ("condition", None, BadCondition), ("variables", (("x", 7),), BadVars), ("state", (True,), BadState),
        ("condition", THERE, BadCondition), ("state", (0, 0), BadState), ("state", (-1,), BadState),
    )),
    (states_where, {"variables": X, "condition": TRUE}, (
        ("variables", (), BadVars), ("condition", 1, BadCondition), ("condition", THERE, BadCondition),
    )),
    (then, {"program": COINS, "other": COINS}, (
        ("program", None, BadProgram), ("other", None, BadProgram), ("other", (XY, SKIP), NotAlike),
        ("program", FULL, BadProgram),
    )),
    (either, {"condition": TRUE, "program": COINS, "other": COINS}, (
        ("condition", None, BadCondition), ("program", None, BadProgram), ("other", None, BadProgram),
        ("condition", THERE, BadCondition), ("other", (XY, SKIP), NotAlike), ("program", FULL, BadProgram),
    )),
    (around, {"condition": TRUE, "program": COINS}, (
        ("condition", None, BadCondition), ("program", None, BadProgram), ("condition", THERE, BadCondition),
        ("program", FULL, BadProgram),
    )),
    (with_vars, {"program": COINS, "variables": XY}, (
        ("program", None, BadProgram), ("variables", None, BadVars), ("variables", (("y", 2),), NotAlike),
    )),
    (renamed, {"program": COINS, "names": ("y",)}, (
        ("program", None, BadProgram), ("names", ("if",), BadNames), ("names", (), BadNames),
    )),
    (worlds, {"program": COINS, "state": (0,)}, (
        ("program", None, BadProgram), ("state", None, BadState), ("program", (X, seq(CHOICE, LOOP)), HasLoops),
        ("program", (X, CHOICE), HasChoices), ("state", (2,), BadState), ("program", MANY, TooMany),
    )),
    (world_of, {"program": COINS, "state": (0,), "number": 1}, (
        ("program", None, BadProgram), ("state", None, BadState), ("number", -1, BadNumber),
        ("program", (X, seq(CHOICE, LOOP)), HasLoops), ("program", (X, CHOICE), HasChoices), ("state", (2,), BadState),
        ("number", 10 ** 9, BadNumber), ("program", MANY, TooMany),
    )),
    (run_world, {"program": COINS, "state": (0,), "thing": (1,)}, (
        ("program", None, BadProgram), ("state", None, BadState), ("thing", (-1,), BadWorld),
        ("program", (X, seq(CHOICE, LOOP)), HasLoops), ("program", (X, CHOICE), HasChoices), ("state", (2,), BadState),
        ("thing", (0, 0), BadWorld),
    )),
    (unrolled, {"program": COINS, "count": 3}, (
        ("program", None, BadProgram), ("count", 21, BadCount),
    )),
    (unrolled, {"program": (X, LOOP), "count": 3}, (
        ("count", 21, BadCount), ("program", (X, ("seq", (LOOP,) * 30)), BadProgram),
    )),
    (lost, {"program": COINS, "state": (0,), "count": 3}, (
        ("program", None, BadProgram), ("state", None, BadState), ("count", True, BadCount),
        ("program", (X, CHOICE), HasChoices), ("state", (2,), BadState),
    )),
    (is_table, {"variables": X, "thing": STAY}, (("variables", None, BadVars),)),
    (joined, {"variables": X, "table": STAY, "other": STAY}, (
        ("variables", None, BadVars), ("table", None, BadTable), ("other", None, BadTable), ("table", WIDE, BadTable),
        ("other", WIDE, BadTable),
    )),
    (mixed, {"variables": X, "table": STAY, "other": STAY, "share": (2, 4)}, (
        ("variables", None, BadVars), ("table", None, BadTable), ("other", None, BadTable), ("share", (3, 2), BadShare),
        ("table", WIDE, BadTable), ("other", WIDE, BadTable),
    )),
    (looped, {"condition": TRUE, "variables": X, "table": STAY}, (
        ("condition", None, BadCondition), ("variables", None, BadVars), ("table", None, BadTable),
        ("condition", THERE, BadCondition), ("table", WIDE, BadTable),
    )),
    (ahead, {"program": COINS, "shares": SHARES}, (
        ("program", None, BadProgram), ("shares", [], BadShares), ("program", (X, CHOICE), HasChoices),
        ("shares", FAR, BadShares),
    )),
    (chance, {"program": COINS, "shares": SHARES, "condition": TRUE}, (
        ("program", None, BadProgram), ("shares", [], BadShares), ("condition", None, BadCondition),
        ("program", (X, CHOICE), HasChoices), ("shares", FAR, BadShares), ("condition", THERE, BadCondition),
    )),
    (chance_never, {"program": COINS, "shares": SHARES}, (
        ("program", None, BadProgram), ("shares", (), BadShares), ("program", (X, CHOICE), HasChoices),
        ("shares", FAR, BadShares),
    )),
    (chances, {"program": COINS, "shares": SHARES}, (
        ("program", None, BadProgram), ("shares", (), BadShares), ("program", (X, CHOICE), HasChoices),
        ("shares", FAR, BadShares),
    )),
    (behind, {"program": COINS, "values": VALUES}, (
        ("program", None, BadProgram), ("values", None, BadValues), ("program", (X, CHOICE), HasChoices),
        ("values", (), BadValues),
    )),
    (wanted, {"program": COINS, "values": VALUES, "shares": SHARES}, (
        ("program", None, BadProgram), ("values", None, BadValues), ("shares", None, BadShares),
        ("program", (X, CHOICE), HasChoices), ("values", ((1, 1),) * 3, BadValues), ("shares", FAR, BadShares),
    )),
    (is_program, {"thing": COINS}, ()),
    (states_of, {"variables": X}, (("variables", None, BadVars),)),
    (read_program, {"text": "vars x 2; skip"}, ()),
    *[(function, {"program": COINS}, (("program", None, BadProgram),)) for function in (
        names_in, names_set, size_of, has_loops, has_choices, write_program,
    )],
    *[(function, {"program": COINS}, (("program", None, BadProgram), ("program", (X, CHOICE), HasChoices)))
      for function in (table, let_by, never)],
    (worlds_table, {"program": COINS}, (
        ("program", None, BadProgram), ("program", (X, seq(CHOICE, LOOP)), HasLoops),
        ("program", (X, CHOICE), HasChoices), ("program", MANY, TooMany),
    )),
)
