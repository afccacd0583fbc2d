"""Papers that lead, step by step, from a program to another one that does the same."""

from alikechances.checks import need_two_programs, need_vars
from alikechances.fits import need_same_vars
from alikechances.kinds import are_from_0, is_tuple_of
from alikechances.moves import Space
from alikechances.paths import exchanged, on_the_way
from alikechances.rules import is_by_rule, is_rule
from alikechances.trees import is_loose, stand_among, statement_names

MOST_STEPS = 6000


def is_statement_of(variables, thing):
    """Whether any object is a statement as papers hold it, with names of the variables."""
    return is_loose(thing) and stand_among(statement_names(thing), variables)


def is_right_step(variables, space, thing):
    """Whether any object is a step by one of the rules."""
    if not is_tuple_of(thing, 4) or not are_from_0(thing[0]) or not is_rule(thing[1]):
        return False
    if not is_statement_of(variables, thing[2]) or not is_statement_of(variables, thing[3]):
        return False
    return is_by_rule(space, thing[1], thing[2], thing[3])


def step_right(variables, thing):
    """Whether any object is a step by one of the rules."""
    need_vars(variables)
    return is_right_step(variables, Space(variables), thing)


def paper_holds(program, other, thing):
    """Whether any object is a paper that leads from the one program's statement to the other's."""
    need_two_programs(program, other)
    need_same_vars(program, other)
    if not isinstance(thing, list) or len(thing) > MOST_STEPS:
        return False
    variables, statement = program
    space = Space(variables)
    for step in thing:
        if not is_right_step(variables, space, step):
            return False
        path, _, before, after = step
        met = on_the_way(statement, path)
        if met is None or met[-1] != before:
            return False
        statement = exchanged(met, path, after)
    return statement == other[1]
