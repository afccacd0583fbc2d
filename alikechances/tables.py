"""Tables: for each state ahead the weights of all that a program can come to."""

from alikechances.checks import (
    need_condition,
    need_fitting_table,
    need_known_condition,
    need_no_choices,
    need_program,
    need_share,
    need_table,
    need_vars,
)
from alikechances.flows import program_rows
from alikechances.kinds import is_table_alone, state_count
from alikechances.moves import Space
from alikechances.rows import looped_rows, row_through, rows_of, sum_of_rows, table_of


def table(program):
    """The table of a program without choices."""
    need_program(program)
    need_no_choices(program)
    return table_of(program_rows(program))


def is_table(variables, thing):
    """Whether any object is a table for the variables."""
    need_vars(variables)
    return is_table_alone(thing) and len(thing) == state_count(variables)


def need_two_tables(variables, table, other):
    """BadVars, BadTable for what is none by itself."""
    need_vars(variables)
    need_table(table)
    need_table(other)


def joined(variables, table, other):
    """The table of doing what the first one tells and then what the second one tells."""
    need_two_tables(variables, table, other)
    need_fitting_table(table, variables)
    need_fitting_table(other, variables)
    second = rows_of(other)
    return table_of([row_through(row, second) for row in rows_of(table)])


def mixed(variables, table, other, share):
    """The table of doing what the first one tells with a share, else what the second one tells."""
    need_two_tables(variables, table, other)
    need_share(share)
    need_fitting_table(table, variables)
    need_fitting_table(other, variables)
    above, below = share
    return table_of([
        sum_of_rows(first, above, second, below - above)
        for first, second in zip(rows_of(table), rows_of(other))
    ])


def looped(condition, variables, table):
    """The table of the while with a condition, of that of its body."""
    need_condition(condition)
    need_vars(variables)
    need_table(table)
    need_known_condition(condition, variables)
    need_fitting_table(table, variables)
    return table_of(looped_rows(Space(variables).truths(condition), rows_of(table)))
