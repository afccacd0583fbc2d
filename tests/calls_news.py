"""Calls of the functions of stage 6, as in calls.py."""

from alikechances.errors import (
    BadGame,
    BadLeaning,
    BadNames,
    BadNews,
    BadNoise,
    BadProgram,
    BadShares,
    BadState,
    HasChoices,
    Lost,
    NotAlike,
    TooMany,
)
from alikechances.learned import guess, guesses, told_by, worth
from alikechances.news import (
    best_news,
    game_against,
    game_holds,
    least_news,
    news_of,
    news_worth,
    noise_for,
    noise_holds,
    noisy,
    same_news,
    tells_more,
)
from tests.calls import COINS, FAR, SHARES
from tests.helpers import CHOICE, X, program

CHOOSING = (X, CHOICE)
GAME = (((1, 2), (-4, 2)), ((0, 1), (3, 1)))
WIDE = (("x", 6), ("y", 2))
COPY = program("y := x", "x 6, y 2")
LOSING = program("see (x is 0)", "x 6, y 2")
MANY = program("draw x from 0 weight 1, 1 weight 1, 2 weight 1, 3 weight 1; draw y from 0 weight 1, 1 weight 1", "x 6, y 2")
SURE = (((6, 8), (1, 4)), ((1, 4), (3, 4)))
VAGUE = (((5, 8), (3, 8)), ((3, 8), (5, 8)))
THIRD = (((1, 1),), ((1, 1),), ((1, 1),))
LEANING = ((1, 2), (2, 4))
ACTIONS = (((1, 1), (0, 1)), ((0, 1), (1, 1)))
LONE = (((1, 1),),)
TOLD = (
    ("program", None, BadProgram), ("shares", [], BadShares), ("names", ("x", "x"), BadNames),
)
FITS = (
    ("program", CHOOSING, HasChoices), ("shares", FAR, BadShares), ("names", ("y",), BadNames),
)
TWO_NEWS = (("news", None, BadNews), ("other", (), BadNews), ("other", THIRD, NotAlike))

ORDERS = (
    (told_by, {"program": COINS, "shares": SHARES, "names": ("x",)}, TOLD + FITS),
    *[(function, {"program": COINS, "shares": SHARES, "names": (), "asked": ("x",)}, (
        *TOLD, ("asked", ["x"], BadNames), *FITS, ("asked", ("x", "y"), BadNames),
    )) for function in (guess, guesses)],
    (worth, {"program": COINS, "shares": SHARES, "names": ("x",), "game": GAME}, (
        *TOLD, ("game", (((1, 1),), ()), BadGame), *FITS, ("game", (((1, 1),),), BadGame),
    )),
    (news_of, {"program": COPY, "states": ((0, 0), (1, 0)), "names": ("x", "y")}, (
        ("program", None, BadProgram), ("states", ((1, 0), (0, 0)), BadState), ("names", ("",), BadNames),
        ("program", (WIDE, CHOICE), HasChoices), ("states", ((6, 0),), BadState), ("names", ("z",), BadNames),
        ("program", LOSING, Lost), ("program", MANY, TooMany),
    )),
    (noisy, {"news": SURE, "noise": VAGUE}, (
        ("news", (((1, 2),),), BadNews), ("noise", None, BadNoise), ("noise", THIRD, BadNoise),
    )),
    (news_worth, {"news": SURE, "leaning": LEANING, "game": ACTIONS}, (
        ("news", None, BadNews), ("leaning", ((1, 2),), BadLeaning), ("game", None, BadGame),
        ("leaning", ((1, 1),), BadLeaning), ("game", LONE, BadGame),
    )),
    *[(function, {"news": SURE, "other": VAGUE}, TWO_NEWS) for function in (tells_more, noise_for, same_news)],
    (game_against, {"news": VAGUE, "other": SURE}, TWO_NEWS),
    (noise_holds, {"news": SURE, "other": VAGUE, "thing": SURE}, TWO_NEWS),
    (game_holds, {"news": VAGUE, "other": SURE, "thing": (LEANING, ACTIONS)}, TWO_NEWS),
    (least_news, {"news": SURE}, (("news", [SURE], BadNews),)),
    (best_news, {"tables": [SURE, VAGUE, SURE]}, (("tables", [], BadNews), ("tables", [SURE, THIRD], NotAlike))),
)
