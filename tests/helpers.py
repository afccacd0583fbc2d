"""Small pieces that many tests use."""

from alikechances.texts import read_program

X = (("x", 2),)
XY = (("x", 2), ("y", 2))
XY3 = (("x", 3), ("y", 2))
ZERO = ("num", 0)
ONE = ("num", 1)
TRUE = ("true",)
SKIP = ("skip",)
VX = ("var", "x")
VY = ("var", "y")
X_IS_0 = ("is", VX, ZERO)
COIN = ("draw", "x", ((ZERO, 1), (ONE, 1)))
CHOICE = ("choose", "x", (ZERO, ONE))
LOOP = ("while", X_IS_0, COIN)

# Objects of kinds that stand for nothing in the package.
OTHERS = (
    None, True, False, 0, 1, -1, "", "x", b"x", (), [], {}, set(), object(), print, ((),), [[]], ("skip",),
    (X, SKIP), ((1, 2),), [((0,), (1, 1))],
)


def program(text, variables="x 2, y 2"):
    """The program of a statement's text."""
    return read_program(f"vars {variables}; {text}")


def nested(many, inner=()):
    """A tuple in a tuple in a tuple."""
    for _ in range(many):
        inner = (inner,)
    return inner


def changed(thing, change):
    """Each object that comes of a thing by changing one part of it; a change gives None for what it leaves."""
    new = change(thing)
    if new is not None:
        yield new[0]
    if isinstance(thing, (tuple, list)):
        for at, part in enumerate(thing):
            for other in changed(part, change):
                parts = list(thing)
                parts[at] = other
                yield type(thing)(parts)


def other_sequence(part):
    """A list for a tuple, a tuple for a list."""
    if isinstance(part, tuple):
        return (list(part),)
    return (tuple(part),) if isinstance(part, list) else None


def as_truth(part):
    """True for 1, False for 0."""
    return (bool(part),) if part in (0, 1) and isinstance(part, int) else None


def as_none(part):
    """None for an integer or a str."""
    return (None,) if isinstance(part, (int, str)) else None


def frozen(thing):
    """What is left of a thing, lists told from tuples, to compare it with itself later."""
    return repr(thing)


def seq(*statements):
    return ("seq", statements)


def nots(many, condition=TRUE):
    """A condition within so many nots."""
    for _ in range(many):
        condition = ("not", condition)
    return condition


def sums(many, expression=ONE):
    """An expression within so many sums."""
    for _ in range(many):
        expression = ("add", expression, ONE)
    return expression


def ifs(many, statement=SKIP):
    """A statement within so many ifs."""
    for _ in range(many):
        statement = ("if", TRUE, statement, SKIP)
    return statement


def whiles(many, statement=SKIP, condition=X_IS_0):
    """A statement within so many whiles."""
    for _ in range(many):
        statement = ("while", condition, statement)
    return statement
