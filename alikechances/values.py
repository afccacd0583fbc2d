"""Values of states carried back through a program to the states ahead."""

from alikechances.checks import need_no_choices, need_program, need_shares, need_values
from alikechances.exact import lowest, over, times, total
from alikechances.fits import need_fitting_shares, need_fitting_values
from alikechances.flows import program_rows, row_behind


def behind(program, values):
    """The values ahead: for each state the weights behind times the values there, added up."""
    need_program(program)
    need_values(values)
    need_no_choices(program)
    need_fitting_values(values, program[0])
    return tuple([mean(row, values) for row in program_rows(program)])


def mean(row, values):
    """The sum of weights times values of a row over all of its weights."""
    worth = total([(weight * above, below) for weight, (above, below) in zip(row, values) if weight])
    return over(worth, (sum(row), 1))


def let_by(program):
    """For each state ahead the weight of being let by and ending."""
    need_program(program)
    need_no_choices(program)
    return tuple([lowest(sum(row[:-2]), sum(row)) for row in program_rows(program)])


def never(program):
    """For each state ahead the weight of never ending."""
    need_program(program)
    need_no_choices(program)
    return tuple([lowest(row[-1], sum(row)) for row in program_rows(program)])


def wanted(program, values, shares):
    """The sum of weight times value over the weight that ends, None if nothing ends."""
    need_program(program)
    need_values(values)
    need_shares(shares)
    need_no_choices(program)
    need_fitting_values(values, program[0])
    need_fitting_shares(shares, program[0])
    row = row_behind(program, shares)
    ended = sum(row[:-2])
    return times(mean(row, values), (sum(row), ended)) if ended else None
