"""Tables: for each state ahead the weights of all that a program can come to."""

from alikechances.checks import (
    need_loop_table,
    need_no_choices,
    need_program,
    need_share,
    need_two_tables,
    need_vars,
)
from alikechances.fits import need_fitting_loop_table, need_fitting_tables
from alikechances.flows import program_rows
from alikechances.kinds import is_table_alone, state_count
from alikechances.moves import Space
from alikechances.rows import joined_rows, looped_rows, rows_of, sum_of_rows, table_of


def table(program):
    """The table of a program without choices."""
    need_program(program)
    need_no_choices(program)
    return table_of(program_rows(program))


def is_table(variables, thing):
    """Whether any object is a table for the variables."""
    need_vars(variables)
    return is_table_alone(thing) and len(thing) == state_count(variables)


def joined(variables, table, other):
    """The table of doing what the first one tells and then what the second one tells."""
    need_two_tables(variables, table, other)
    need_fitting_tables(table, other, variables)
    return table_of(joined_rows(rows_of(table), rows_of(other)))


def mixed(variables, table, other, share):
    """The table of doing what the first one tells with a share, else what the second one tells."""
    need_two_tables(variables, table, other)
    need_share(share)
    need_fitting_tables(table, other, variables)
    above, below = share
    return table_of([
        sum_of_rows(first, above, second, below - above)
        for first, second in zip(rows_of(table), rows_of(other))
    ])


def looped(condition, variables, table):
    """The table of the while with a condition, of that of its body."""
    need_loop_table(condition, variables, table)
    need_fitting_loop_table(condition, variables, table)
    return table_of(looped_rows(Space(variables).truths(condition), rows_of(table)))
