"""Tables put together of those of single statements, and whiles by their rounds."""

from alikechances.chains import expected_steps
from alikechances.checks import (
    need_condition,
    need_count,
    need_expression,
    need_loop_table,
    need_name,
    need_no_choices,
    need_pairs,
    need_program,
    need_table,
    need_two_tables,
    need_vars,
)
from alikechances.exact import NOTHING
from alikechances.fits import (
    need_fitting_loop_table,
    need_fitting_table,
    need_fitting_tables,
    need_known_condition,
    need_known_expression,
    need_known_name,
    need_known_pairs,
)
from alikechances.flows import act_rows
from alikechances.moves import Space
from alikechances.rows import (
    chosen_rows,
    joined_rows,
    looped_rows,
    rows_of,
    rows_of_rounds,
    rows_often,
    table_of,
    unit_rows,
)

MOST_TIMES = 1000


def act_table(variables, act):
    """The table of a statement in which no other one stands."""
    return table_of(act_rows(Space(variables), act))


def plain_table(variables):
    """The table of skip."""
    need_vars(variables)
    return act_table(variables, ("skip",))


def set_table(variables, name, expression):
    """The table of a set."""
    need_vars(variables)
    need_name(name)
    need_expression(expression)
    need_known_name(name, variables)
    need_known_expression(expression, variables)
    return act_table(variables, ("set", name, expression))


def draw_table(variables, name, pairs):
    """The table of a draw."""
    need_vars(variables)
    need_name(name)
    need_pairs(pairs)
    need_known_name(name, variables)
    need_known_pairs(pairs, variables)
    return act_table(variables, ("draw", name, pairs))


def see_table(variables, condition):
    """The table of a see."""
    need_vars(variables)
    need_condition(condition)
    need_known_condition(condition, variables)
    return act_table(variables, ("see", condition))


def branched(condition, variables, table, other):
    """The table with the lines of the first one where the condition holds, of the second one elsewhere."""
    need_condition(condition)
    need_two_tables(variables, table, other)
    need_known_condition(condition, variables)
    need_fitting_tables(table, other, variables)
    return tuple(chosen_rows(Space(variables).truths(condition), table, other))


def often(variables, table, count):
    """The table of doing what a table tells so many times."""
    need_vars(variables)
    need_table(table)
    need_count(count, MOST_TIMES)
    need_fitting_table(table, variables)
    return table_of(rows_often(rows_of(table), count))


def statement_rows(space, statement):
    """The rows of a statement, put together of those of the statements in it."""
    kind = statement[0]
    if kind == "seq":
        rows = unit_rows(len(space.states))
        for part in statement[1]:
            rows = joined_rows(rows, statement_rows(space, part))
        return rows
    if kind == "if":
        branches = [statement_rows(space, part) for part in statement[2:]]
        return chosen_rows(space.truths(statement[1]), branches[0], branches[1])
    if kind == "while":
        return looped_rows(space.truths(statement[1]), statement_rows(space, statement[2]))
    return act_rows(space, statement)


def joined_table(program):
    """The table of a program, put together of those of its statements."""
    need_program(program)
    need_no_choices(program)
    return table_of(statement_rows(Space(program[0]), program[1]))


def looped_for(condition, variables, table, count):
    """The table of a while that goes round at most so many times, what would go on counted as endless."""
    need_loop_table(condition, variables, table)
    need_count(count, MOST_TIMES)
    need_fitting_loop_table(condition, variables, table)
    return table_of(rows_of_rounds(Space(variables).truths(condition), rows_of(table), count))


def rounds(condition, variables, table):
    """For each state how often the body of a while is begun in the mean, None where it may go round for ever."""
    need_loop_table(condition, variables, table)
    need_fitting_loop_table(condition, variables, table)
    truths = Space(variables).truths(condition)
    rows = rows_of(table)
    chain = {
        at: {place: weight for place, weight in enumerate(row) if weight}
        for at, row in enumerate(rows) if truths[at]
    }
    return tuple([expected_steps(chain, at) if truth else NOTHING for at, truth in enumerate(truths)])


def table_unlike(variables, table, other):
    """The first tuple (number of the state ahead, place) at which two tables differ, None if they are equal."""
    need_two_tables(variables, table, other)
    need_fitting_tables(table, other, variables)
    for at, (line, other_line) in enumerate(zip(table, other)):
        weights = (*line[0], line[1], line[2])
        other_weights = (*other_line[0], other_line[1], other_line[2])
        for place, weight in enumerate(weights):
            if weight != other_weights[place]:
                return (at, place)
    return None
