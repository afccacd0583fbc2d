"""Calls of the functions of stage 4, as in calls.py."""

from alikechances.coins import (
    coin_best,
    coin_cost,
    coin_holds,
    coin_machine,
    coin_shares,
    coins_least,
    row_machine,
    toss,
)
from alikechances.errors import (
    BadCoins,
    BadCondition,
    BadCount,
    BadExpression,
    BadName,
    BadNumber,
    BadPairs,
    BadParts,
    BadProgram,
    BadState,
    BadTable,
    BadTickets,
    BadVars,
    BadWorld,
    HasChoices,
    HasLoops,
    TooMany,
)
from alikechances.joins import (
    branched,
    draw_table,
    joined_table,
    looped_for,
    often,
    plain_table,
    rounds,
    see_table,
    set_table,
    table_unlike,
)
from alikechances.looppapers import loop_paper, loop_paper_holds
from alikechances.tables import table
from alikechances.tickets import by_ticket, run_by, tickets_least, tickets_of
from tests.calls import COINS, STAY, THERE, WIDE
from tests.helpers import CHOICE, LOOP, ONE, SKIP, TRUE, VX, VY, X, X_IS_0, ZERO, seq

TOSSED = table(COINS)
PAIRS = ((VX, 3), (ONE, 1))
THIRDS = ((1, 3), (4, 6))
FLIPS = ((("out", 1), 1), (("out", 0), 0))
CHOOSING = (X, CHOICE)
BOTH = (X, seq(CHOICE, LOOP))
# 199 ** 2 tickets are the least of this one.
DRAW = ("draw", "x", ((ZERO, 99), (ONE, 99), (ONE, 1)))
MANY = (X, seq(DRAW, ("if", X_IS_0, DRAW, SKIP)))
TABLED = (("condition", None, BadCondition), ("variables", None, BadVars), ("table", None, BadTable))
LOOPED = TABLED + (("condition", THERE, BadCondition), ("table", WIDE, BadTable))
TWO_TABLES = (
    ("variables", None, BadVars), ("table", None, BadTable), ("other", None, BadTable), ("table", WIDE, BadTable),
    ("other", WIDE, BadTable),
)

ORDERS = (
    (plain_table, {"variables": X}, (("variables", None, BadVars),)),
    (set_table, {"variables": X, "name": "x", "expression": VX}, (
        ("variables", None, BadVars), ("name", "if", BadName), ("expression", None, BadExpression), ("name", "y", BadName),
        ("expression", VY, BadExpression),
    )),
    (draw_table, {"variables": X, "name": "x", "pairs": PAIRS}, (
        ("variables", None, BadVars), ("name", "if", BadName), ("pairs", (), BadPairs), ("name", "y", BadName),
        ("pairs", ((VY, 1),), BadPairs),
    )),
    (see_table, {"variables": X, "condition": X_IS_0}, (
        ("variables", None, BadVars), ("condition", None, BadCondition), ("condition", THERE, BadCondition),
    )),
    (branched, {"condition": X_IS_0, "variables": X, "table": TOSSED, "other": STAY}, (
        ("condition", None, BadCondition), *TWO_TABLES[:3], ("condition", THERE, BadCondition), *TWO_TABLES[3:],
    )),
    (often, {"variables": X, "table": TOSSED, "count": 3}, (
        ("variables", None, BadVars), ("table", None, BadTable), ("count", 1001, BadCount), ("table", WIDE, BadTable),
    )),
    (joined_table, {"program": COINS}, (("program", None, BadProgram), ("program", CHOOSING, HasChoices))),
    (looped_for, {"condition": X_IS_0, "variables": X, "table": TOSSED, "count": 3}, (
        *TABLED, ("count", -1, BadCount), *LOOPED[3:],
    )),
    (rounds, {"condition": X_IS_0, "variables": X, "table": TOSSED}, LOOPED),
    (table_unlike, {"variables": X, "table": TOSSED, "other": STAY}, TWO_TABLES),
    (loop_paper, {"condition": X_IS_0, "variables": X, "table": TOSSED}, LOOPED),
    (loop_paper_holds, {"condition": TRUE, "variables": X, "table": STAY, "thing": None}, LOOPED),
    (run_by, {"program": COINS, "state": (0,), "tickets": [1, 7]}, (
        ("program", None, BadProgram), ("state", None, BadState), ("tickets", [-1], BadTickets),
        ("program", CHOOSING, HasChoices), ("state", (2,), BadState), ("tickets", [2], BadTickets),
    )),
    (tickets_of, {"program": COINS, "state": (0,), "world": (1,)}, (
        ("program", None, BadProgram), ("state", None, BadState), ("world", [1], BadWorld), ("program", BOTH, HasLoops),
        ("program", CHOOSING, HasChoices), ("state", (0, 0), BadState), ("world", (2,), BadWorld),
    )),
    (tickets_least, {"program": COINS, "state": (0,)}, (
        ("program", None, BadProgram), ("state", None, BadState), ("program", CHOOSING, HasChoices),
        ("state", (2,), BadState),
    )),
    (by_ticket, {"program": COINS, "state": (0,), "number": 1}, (
        ("program", None, BadProgram), ("state", None, BadState), ("number", True, BadNumber),
        ("program", CHOOSING, HasChoices), ("state", (2,), BadState), ("number", 10 ** 9, BadNumber),
        ("program", MANY, TooMany),
    )),
    (coin_shares, {"machine": FLIPS, "count": 3}, (
        ("machine", None, BadCoins), ("count", 27, BadCount), ("machine", ((("out", 3), 0),), BadCoins),
    )),
    (coin_cost, {"machine": FLIPS}, (("machine", None, BadCoins),)),
    (toss, {"machine": FLIPS, "tosses": (True, False)}, (("machine", None, BadCoins),)),
    (coins_least, {"parts": THIRDS}, (("parts", None, BadParts),)),
    (coin_machine, {"parts": THIRDS}, (("parts", ((1, 1),), BadParts), ("parts", ((1, 197),) * 4 + ((193, 197),), TooMany))),
    (coin_holds, {"parts": THIRDS, "thing": FLIPS}, (("parts", None, BadParts),)),
    (coin_best, {"parts": THIRDS, "thing": FLIPS}, (("parts", None, BadParts),)),
    (row_machine, {"program": COINS, "state": (0,)}, (
        ("program", None, BadProgram), ("state", None, BadState), ("program", CHOOSING, HasChoices),
        ("state", (2,), BadState), ("program", MANY, TooMany),
    )),
)
