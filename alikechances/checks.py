"""The errors that the functions of the package raise for what is handed in, each with its look at it."""

from alikechances.errors import (
    BadCondition,
    BadCount,
    BadExpression,
    BadNames,
    BadNumber,
    BadProgram,
    BadShare,
    BadShares,
    BadState,
    BadTable,
    BadValues,
    BadVars,
    BadWorld,
    HasChoices,
    HasLoops,
    NotAlike,
)
from alikechances.kinds import (
    are_names,
    are_shares,
    are_values,
    are_variables,
    fits_state,
    is_between,
    is_integer,
    is_share,
    is_table_alone,
    is_tuple_of_integers,
    is_world_alone,
    state_count,
)
from alikechances.trees import (
    DEEPEST_EXPRESSION,
    is_condition,
    is_expression,
    is_whole_program,
    read_names,
    stand_among,
    statements_in,
)


def need_program(thing):
    """BadProgram for any object that is no program."""
    if not is_whole_program(thing):
        raise BadProgram("this is no program")


def need_vars(thing):
    """BadVars for any object that is no variables."""
    if not are_variables(thing):
        raise BadVars("these are no variables")


def need_expression(thing):
    """BadExpression for any object that is no expression by itself."""
    if not is_expression(thing, DEEPEST_EXPRESSION):
        raise BadExpression("this is no expression")


def need_condition(thing):
    """BadCondition for any object that is no condition by itself."""
    if not is_condition(thing, DEEPEST_EXPRESSION):
        raise BadCondition("this is no condition")


def need_state(thing):
    """BadState for any object that is no state by itself."""
    if not is_tuple_of_integers(thing):
        raise BadState("this is no state")


def need_world(thing):
    """BadWorld for any object that is no world by itself."""
    if not is_world_alone(thing):
        raise BadWorld("this is no world")


def need_names(thing):
    """BadNames for any object that is no names by itself."""
    if not are_names(thing):
        raise BadNames("these are no names")


def need_number(thing):
    """BadNumber for any object that is no integer from 0 on."""
    if not is_integer(thing) or thing < 0:
        raise BadNumber("this is no number from 0 on")


def need_count(thing, most):
    """BadCount for any object that is no integer from 0 to most."""
    if not is_between(thing, 0, most):
        raise BadCount(f"this is no number from 0 to {most}")


def need_share(thing):
    """BadShare for any object that is no fraction from 0 to 1."""
    if not is_share(thing):
        raise BadShare("this is no fraction from 0 to 1")


def need_shares(thing):
    """BadShares for any object that is no shares by itself."""
    if not are_shares(thing):
        raise BadShares("these are no shares")


def need_values(thing):
    """BadValues for any object that is no values by itself."""
    if not are_values(thing):
        raise BadValues("these are no values")


def need_table(thing):
    """BadTable for any object that is no table by itself."""
    if not is_table_alone(thing):
        raise BadTable("this is no table")


def need_no_loops(program):
    """HasLoops for a program with a while."""
    if any([statement[0] == "while" for statement in statements_in(program[1])]):
        raise HasLoops("a while stands in the program")


def need_no_choices(program):
    """HasChoices for a program with a choose."""
    if any([statement[0] == "choose" for statement in statements_in(program[1])]):
        raise HasChoices("a choose stands in the program")


def need_known_expression(expression, variables):
    """BadExpression for an expression with a name that does not stand among the variables."""
    if not stand_among(read_names(expression), variables):
        raise BadExpression("a name of the expression is no variable")


def need_known_condition(condition, variables):
    """BadCondition for a condition with a name that does not stand among the variables."""
    if not stand_among(read_names(condition), variables):
        raise BadCondition("a name of the condition is no variable")


def need_fitting_state(state, variables):
    """BadState for a tuple of integers that is no state of the variables."""
    if not fits_state(state, variables):
        raise BadState("this is no state of the variables")


def need_fitting_shares(shares, variables):
    """BadShares for shares with what is no state of the variables."""
    if not all([fits_state(state, variables) for state, _ in shares]):
        raise BadShares("these are no shares of states of the variables")


def need_fitting_values(values, variables):
    """BadValues for values that are more or fewer than the states."""
    if len(values) != state_count(variables):
        raise BadValues("these are not as many values as there are states")


def need_fitting_table(table, variables):
    """BadTable for a table with more or fewer rows than there are states."""
    if len(table) != state_count(variables):
        raise BadTable("this is no table for the variables")


def need_same_vars(program, other):
    """NotAlike for two programs of which the variables are not equal tuples."""
    if program[0] != other[0]:
        raise NotAlike("the programs have different variables")
