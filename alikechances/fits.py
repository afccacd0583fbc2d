"""The errors that hang on several arguments, each of its kind by itself, each with its look at them."""

from alikechances.checks import need_no_choices
from alikechances.errors import (
    BadCondition,
    BadExpression,
    BadGame,
    BadLeaning,
    BadName,
    BadNames,
    BadNoise,
    BadPairs,
    BadShares,
    BadState,
    BadTable,
    BadValues,
    NotAlike,
)
from alikechances.kinds import fits_state, state_count
from alikechances.trees import read_names, stand_among


def need_same_vars(program, other):
    """NotAlike for two programs of which the variables are not equal tuples."""
    if program[0] != other[0]:
        raise NotAlike("the programs have different variables")


def need_comparable(program, other):
    """HasChoices for either program, then NotAlike for different variables."""
    need_no_choices(program)
    need_no_choices(other)
    need_same_vars(program, other)


def need_known_name(name, variables):
    """BadName for a name that does not stand among the variables."""
    if not stand_among([name], variables):
        raise BadName("the name is no variable")


def need_known_names(names, variables):
    """BadNames for names of which one does not stand among the variables."""
    if not stand_among(names, variables):
        raise BadNames("one of the names is no variable")


def need_known_expression(expression, variables):
    """BadExpression for an expression with a name that does not stand among the variables."""
    if not stand_among(read_names(expression), variables):
        raise BadExpression("a name of the expression is no variable")


def need_known_condition(condition, variables):
    """BadCondition for a condition with a name that does not stand among the variables."""
    if not stand_among(read_names(condition), variables):
        raise BadCondition("a name of the condition is no variable")


def need_known_pairs(pairs, variables):
    """BadPairs for pairs with a name that does not stand among the variables."""
    if not all([stand_among(read_names(expression), variables) for expression, _ in pairs]):
        raise BadPairs("a name of the pairs is no variable")


def need_fitting_state(state, variables):
    """BadState for a tuple of integers that is no state of the variables."""
    if not fits_state(state, variables):
        raise BadState("this is no state of the variables")


def need_fitting_states(states, variables):
    """BadState for states of which one is no state of the variables."""
    for state in states:
        need_fitting_state(state, variables)


def need_fitting_shares(shares, variables):
    """BadShares for shares with what is no state of the variables."""
    if not all([fits_state(state, variables) for state, _ in shares]):
        raise BadShares("these are no shares of states of the variables")


def need_fitting_counted_states(pairs, variables):
    """BadPairs for pairs with what is no state of the variables."""
    if not all([fits_state(state, variables) for state, _ in pairs]):
        raise BadPairs("these are no pairs of states of the variables")


def need_fitting_values(values, variables):
    """BadValues for values that are more or fewer than the states."""
    if len(values) != state_count(variables):
        raise BadValues("these are not as many values as there are states")


def need_fitting_table(table, variables):
    """BadTable for a table with more or fewer rows than there are states."""
    if len(table) != state_count(variables):
        raise BadTable("this is no table for the variables")


def need_fitting_tables(table, other, variables):
    """BadTable for either table with more or fewer rows than there are states."""
    need_fitting_table(table, variables)
    need_fitting_table(other, variables)


def need_fitting_loop_table(condition, variables, table):
    """BadCondition for names that do not stand there, then BadTable for a table of another size."""
    need_known_condition(condition, variables)
    need_fitting_table(table, variables)


def need_fitting_game(game, many):
    """BadGame for a game with more or fewer fractions in its actions than there are things that can be so."""
    if len(game[0]) != many:
        raise BadGame("the actions of the game have another length")


def need_fitting_leaning(leaning, news):
    """BadLeaning for a leaning with more or fewer fractions than the news table has rows."""
    if len(leaning) != len(news):
        raise BadLeaning("the leaning is not as long as the news table")


def need_fitting_noise(noise, news):
    """BadNoise for a noise with more or fewer rows than the news table has columns."""
    if len(noise) != len(news[0]):
        raise BadNoise("the noise has not as many rows as the news table has columns")


def need_alike_news(news, other):
    """NotAlike for two news tables with different numbers of rows."""
    if len(news) != len(other):
        raise NotAlike("the news tables have different numbers of rows")
