"""Papers that bound from above and below what a while is worth, and ranks that show that it ends."""

from alikechances.checks import need_condition, need_no_choices, need_program, need_values_from_0
from alikechances.exact import is_at_most
from alikechances.fits import need_fitting_values, need_known_condition
from alikechances.flows import program_rows
from alikechances.kinds import are_from_0, are_values_from_0, is_tuple_of
from alikechances.moves import Space
from alikechances.ranks import least_ranks
from alikechances.rows import looped_rows
from alikechances.values import mean


def need_loop(condition, program):
    """BadCondition, BadProgram for what is none by itself."""
    need_condition(condition)
    need_program(program)


def need_fitting_loop(condition, program):
    """HasChoices, then BadCondition for names that do not stand among the variables."""
    need_no_choices(program)
    need_known_condition(condition, program[0])


def need_valued_loop(condition, program, values):
    """All that can be wrong with a condition, a program and values from 0 on."""
    need_loop(condition, program)
    need_values_from_0(values)
    need_fitting_loop(condition, program)
    need_fitting_values(values, program[0])


def parts_of_loop(condition, program):
    """For each state whether the condition holds, and the row of the body."""
    return (Space(program[0]).truths(condition), program_rows(program))


def loop_values(truths, rows, values):
    """The values ahead of a while, of those behind it."""
    return tuple([mean(row, values) for row in looped_rows(truths, rows)])


def loop_ranks(truths, rows):
    """For each state the least rank, None where the while never ends from it."""
    many = len(truths)
    outs = [not truth or row[many] > 0 for truth, row in zip(truths, rows)]
    return least_ranks(outs, rows)


def once_more(truths, rows, values, paper):
    """For each state the value there where the condition does not hold, else what the body makes of the paper."""
    return [
        mean(row, paper) if truth else value
        for truth, row, value in zip(truths, rows, values)
    ]


def is_paper(thing, many):
    """Whether any object is so many values from 0 on."""
    return are_values_from_0(thing) and len(thing) == many


def above_paper(condition, program, values):
    """The least loop paper from above: the values ahead of the while itself."""
    need_valued_loop(condition, program, values)
    truths, rows = parts_of_loop(condition, program)
    return loop_values(truths, rows, values)


def above_holds(condition, program, values, thing):
    """Whether any object is a loop paper from above."""
    need_valued_loop(condition, program, values)
    if not is_paper(thing, len(values)):
        return False
    truths, rows = parts_of_loop(condition, program)
    least = once_more(truths, rows, values, thing)
    return all([is_at_most(low, told) for low, told in zip(least, thing)])


def below_paper(condition, program, values):
    """A loop paper from below: the values ahead of the while itself, with ranks."""
    need_valued_loop(condition, program, values)
    truths, rows = parts_of_loop(condition, program)
    # Where the while never ends the value is 0, so that any rank will do.
    ranks = tuple([rank or 0 for rank in loop_ranks(truths, rows)])
    return (loop_values(truths, rows, values), ranks)


def below_holds(condition, program, values, thing):
    """Whether any object is a loop paper from below."""
    need_valued_loop(condition, program, values)
    many = len(values)
    if not is_tuple_of(thing, 2) or not is_paper(thing[0], many):
        return False
    if not are_from_0(thing[1]) or len(thing[1]) != many:
        return False
    truths, rows = parts_of_loop(condition, program)
    paper, ranks = thing
    most = once_more(truths, rows, values, paper)
    if not all([is_at_most(told, high) for told, high in zip(paper, most)]):
        return False
    return all([
        leads_down(truths, ranks, rows[at], ranks[at])
        for at in range(many) if truths[at] and paper[at][0] > 0
    ])


def leads_down(truths, ranks, row, rank):
    """Whether the body, of which this is a row, can be refused, or end out of the loop or in a lesser rank."""
    if row[len(truths)] > 0:
        return True
    return any([weight > 0 and (not truth or low < rank) for weight, truth, low in zip(row, truths, ranks)])


def ends_surely(condition, program):
    """Whether the while goes on for ever from no state with a weight above 0."""
    need_loop(condition, program)
    need_fitting_loop(condition, program)
    truths, rows = parts_of_loop(condition, program)
    return all([row[-1] == 0 for row in looped_rows(truths, rows)])


def rank_paper(condition, program):
    """Ranks that show that the while ends surely, None if it does not."""
    need_loop(condition, program)
    need_fitting_loop(condition, program)
    truths, rows = parts_of_loop(condition, program)
    if any([row[-1] > 0 for row in looped_rows(truths, rows)]):
        return None
    return tuple(loop_ranks(truths, rows))
