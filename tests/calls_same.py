"""Calls of the functions of stage 3, as in calls.py."""

from alikechances.errors import (
    BadCondition,
    BadNames,
    BadPairs,
    BadProgram,
    BadValues,
    BadVars,
    HasChoices,
    HasLoops,
    NotAlike,
)
from alikechances.loops import above_holds, above_paper, below_holds, below_paper, ends_surely, rank_paper
from alikechances.normals import draw_program, normal
from alikechances.orders import apart, less_sure, possible, sure
from alikechances.same import (
    alike,
    alike_for,
    alike_within,
    branch_parting,
    multiple,
    never_matters,
    parting,
    parting_for,
    row_classes,
    same_table,
)
from tests.calls import COINS, THERE
from tests.helpers import CHOICE, LOOP, SKIP, X, X_IS_0, XY, program, seq

HERE = (X, SKIP)
CHOOSING = (X, CHOICE)
FAR = (XY, SKIP)
HALF = program("draw x from 0 weight 1, 1 weight 1; see (x is 0)", "x 2")
WHOLE = program("x := 0", "x 2")
VALUES = ((3, 2), (8, 4))
ABOVE = ((2, 1), (4, 2))
BELOW = (((1, 1), (2, 1)), (1, 0))
PAIRS = [((0,), 3), ((1,), 6)]
TWO_PROGRAMS = (
    ("program", None, BadProgram), ("other", None, BadProgram), ("program", CHOOSING, HasChoices),
    ("other", CHOOSING, HasChoices), ("other", FAR, NotAlike),
)
ONE_PROGRAM = (("program", None, BadProgram), ("program", CHOOSING, HasChoices))
ASKED = (
    ("program", None, BadProgram), ("condition", None, BadCondition), ("program", CHOOSING, HasChoices),
    ("condition", THERE, BadCondition),
)
WHILE = (
    ("condition", None, BadCondition), ("program", None, BadProgram), ("program", CHOOSING, HasChoices),
    ("condition", THERE, BadCondition),
)
VALUED = (
    ("condition", None, BadCondition), ("program", None, BadProgram), ("values", ((-1, 2), (0, 1)), BadValues),
    ("program", CHOOSING, HasChoices), ("condition", THERE, BadCondition), ("values", VALUES[:1], BadValues),
)
NAMED = (
    ("program", None, BadProgram), ("other", None, BadProgram), ("names", ("x", "x"), BadNames),
    ("program", CHOOSING, HasChoices), ("other", CHOOSING, HasChoices), ("other", FAR, NotAlike),
    ("names", ("y",), BadNames),
)

ORDERS = (
    (above_paper, {"condition": X_IS_0, "program": COINS, "values": VALUES}, VALUED),
    (above_holds, {"condition": X_IS_0, "program": COINS, "values": VALUES, "thing": ABOVE}, VALUED),
    (below_paper, {"condition": X_IS_0, "program": COINS, "values": VALUES}, VALUED),
    (below_holds, {"condition": X_IS_0, "program": COINS, "values": VALUES, "thing": BELOW}, VALUED),
    (ends_surely, {"condition": X_IS_0, "program": COINS}, WHILE),
    (rank_paper, {"condition": X_IS_0, "program": COINS}, WHILE),
    *[(function, {"program": HALF, "other": WHOLE}, TWO_PROGRAMS) for function in (
        alike, multiple, alike_within, same_table, less_sure, apart,
    )],
    (parting, {"program": COINS, "other": HERE}, TWO_PROGRAMS),
    (branch_parting, {"program": HALF, "other": WHOLE}, TWO_PROGRAMS),
    (branch_parting, {"program": HALF, "other": WHOLE}, (
        ("program", CHOOSING, HasChoices), ("other", COINS, NotAlike),
    )),
    (alike_for, {"program": HALF, "other": WHOLE, "names": ("x",)}, NAMED),
    (parting_for, {"program": COINS, "other": HERE, "names": ("x",)}, NAMED),
    (row_classes, {"program": COINS}, ONE_PROGRAM),
    (never_matters, {"program": COINS}, ONE_PROGRAM),
    (sure, {"program": COINS, "condition": X_IS_0}, ASKED),
    (possible, {"program": COINS, "condition": X_IS_0}, ASKED),
    (normal, {"program": COINS}, (
        ("program", None, BadProgram), ("program", (X, seq(CHOICE, LOOP)), HasLoops), ("program", CHOOSING, HasChoices),
    )),
    (draw_program, {"variables": X, "pairs": PAIRS}, (
        ("variables", None, BadVars), ("pairs", [], BadPairs), ("pairs", [((2,), 1)], BadPairs),
    )),
)
