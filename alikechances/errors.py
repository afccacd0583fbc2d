"""The errors of the package, each directly under ChanceError."""


class ChanceError(ValueError):
    """Any error of the package."""


class BadProgram(ChanceError):
    """What was handed in, or what would come, is no program."""


class BadText(ChanceError):
    """This writes no program; `place` tells where, -1 where it is no such str."""

    def __init__(self, place):
        ChanceError.__init__(self, f"the text cannot go on at {place}")
        self.place = place


class BadVars(ChanceError):
    """These are no variables."""


class BadState(ChanceError):
    """This is no state of the variables."""


class BadExpression(ChanceError):
    """This is no expression over the variables."""


class BadCondition(ChanceError):
    """This is no condition over the variables."""


class BadPairs(ChanceError):
    """These are no pairs of a draw."""


class BadName(ChanceError):
    """This is no name of a variable."""


class BadNames(ChanceError):
    """These are no such names of variables."""


class BadFraction(ChanceError):
    """This is no fraction."""


class BadShare(ChanceError):
    """This is no fraction from 0 to 1."""


class BadShares(ChanceError):
    """These are no shares of states."""


class BadValues(ChanceError):
    """These are no values of states."""


class BadTable(ChanceError):
    """This is no table for the variables."""


class BadNumber(ChanceError):
    """This is no such number."""


class BadCount(ChanceError):
    """This is no such count."""


class BadWorld(ChanceError):
    """This is no world of the program from the state."""


class BadTickets(ChanceError):
    """These are no tickets; `place` tells which one, -1 where it is no list."""

    def __init__(self, place):
        ChanceError.__init__(self, f"the tickets cannot be taken at {place}")
        self.place = place


class BadCoins(ChanceError):
    """This is no coin machine."""


class BadParts(ChanceError):
    """These are no parts of one."""


class BadLeaning(ChanceError):
    """This is no leaning."""


class BadWay(ChanceError):
    """This is no way of choosing."""


class BadGame(ChanceError):
    """This is no game."""


class BadNews(ChanceError):
    """This is no news table."""


class BadNoise(ChanceError):
    """This is no noise for the news."""


class NotAlike(ChanceError):
    """Two things that have to be alike are not."""


class HasLoops(ChanceError):
    """A program with a while stands where none may be."""


class HasChoices(ChanceError):
    """A program with a choose stands where none may be."""


class Lost(ChanceError):
    """Something is refused or endless where nothing may be."""


class NothingToUndo(ChanceError):
    """Nothing is in force that could be taken back."""


class Full(ChanceError):
    """As many deeds are in force as may be."""


class TooMany(ChanceError):
    """There is more to look at than may be."""


class BadCommand(ChanceError):
    """This is no row of the desk."""
