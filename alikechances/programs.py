"""Programs, and what can be told of their parts without doing them."""

from alikechances.checks import need_condition, need_expression, need_program, need_state, need_vars
from alikechances.fits import need_fitting_state, need_known_condition, need_known_expression
from alikechances.reckoning import all_states, named_values, number_of, truth_of
from alikechances.trees import changed_names, is_whole_program, statement_names, statements_in


def is_program(thing):
    """Whether any object is a program."""
    return is_whole_program(thing)


def states_of(variables):
    """The list of all states of variables, ascending."""
    need_vars(variables)
    return all_states(variables)


def names_in(program):
    """The ascending list of the names that are read, set, drawn or chosen in a program."""
    need_program(program)
    return sorted(set(statement_names(program[1])))


def names_set(program):
    """The ascending list of the names that are set, drawn or chosen in a program."""
    need_program(program)
    return sorted(set(changed_names(program[1])))


def value_of(expression, variables, state):
    """The number that an expression comes to in a state."""
    need_expression(expression)
    need_vars(variables)
    need_state(state)
    need_known_expression(expression, variables)
    need_fitting_state(state, variables)
    return number_of(expression, named_values(variables, state))


def holds(condition, variables, state):
    """Whether a condition holds in a state."""
    need_condition(condition)
    need_vars(variables)
    need_state(state)
    need_known_condition(condition, variables)
    need_fitting_state(state, variables)
    return truth_of(condition, named_values(variables, state))


def states_where(variables, condition):
    """The list of the states in which a condition holds, ascending."""
    need_vars(variables)
    need_condition(condition)
    need_known_condition(condition, variables)
    return [state for state in all_states(variables) if truth_of(condition, named_values(variables, state))]


def size_of(program):
    """The number of statements of a program, a seq counted as none."""
    need_program(program)
    return len(statements_in(program[1]))


def has_loops(program):
    """Whether a while stands in a program."""
    need_program(program)
    return any([statement[0] == "while" for statement in statements_in(program[1])])


def has_choices(program):
    """Whether a choose stands in a program."""
    need_program(program)
    return any([statement[0] == "choose" for statement in statements_in(program[1])])
