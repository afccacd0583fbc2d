"""The errors of kind, each with its look at what is handed in, then HasLoops and HasChoices."""

from alikechances.errors import (
    BadCoins,
    BadCondition,
    BadCount,
    BadExpression,
    BadFraction,
    BadGame,
    BadLeaning,
    BadName,
    BadNames,
    BadNews,
    BadNoise,
    BadNumber,
    BadPairs,
    BadParts,
    BadProgram,
    BadShare,
    BadShares,
    BadState,
    BadTable,
    BadTickets,
    BadValues,
    BadVars,
    BadWorld,
    HasChoices,
    HasLoops,
)
from alikechances.kinds import (
    are_counted_states,
    are_from_0,
    are_names,
    are_news,
    are_parts,
    are_shares,
    are_states_ahead,
    are_values,
    are_values_from_0,
    are_variables,
    is_between,
    is_coin_machine,
    is_fraction,
    is_game_alone,
    is_integer,
    is_leaning,
    is_news,
    is_share,
    is_table_alone,
    is_tuple_of_integers,
    wrong_ticket,
)
from alikechances.trees import (
    DEEPEST_EXPRESSION,
    are_pairs,
    is_condition,
    is_expression,
    is_whole_program,
    statements_in,
)
from alikechances.words import is_name


def need_program(thing):
    """BadProgram for any object that is no program."""
    if not is_whole_program(thing):
        raise BadProgram("this is no program")


def need_two_programs(program, other):
    """BadProgram for either that is none."""
    need_program(program)
    need_program(other)


def need_vars(thing):
    """BadVars for any object that is no variables."""
    if not are_variables(thing):
        raise BadVars("these are no variables")


def need_expression(thing):
    """BadExpression for any object that is no expression by itself."""
    if not is_expression(thing, DEEPEST_EXPRESSION):
        raise BadExpression("this is no expression")


def need_condition(thing):
    """BadCondition for any object that is no condition by itself."""
    if not is_condition(thing, DEEPEST_EXPRESSION):
        raise BadCondition("this is no condition")


def need_state(thing):
    """BadState for any object that is no state by itself."""
    if not is_tuple_of_integers(thing):
        raise BadState("this is no state")


def need_states(thing):
    """BadState for any object that is no tuple of one to six states by itself, ascending."""
    if not are_states_ahead(thing):
        raise BadState("these are no states, ascending")


def need_world(thing):
    """BadWorld for any object that is no world by itself."""
    if not are_from_0(thing):
        raise BadWorld("this is no world")


def need_name(thing):
    """BadName for any object that is no name by itself."""
    if not is_name(thing):
        raise BadName("this is no name")


def need_names(thing):
    """BadNames for any object that is no names by itself."""
    if not are_names(thing):
        raise BadNames("these are no names")


def need_number(thing):
    """BadNumber for any object that is no integer from 0 on."""
    if not is_integer(thing) or thing < 0:
        raise BadNumber("this is no number from 0 on")


def need_count(thing, most, least=0):
    """BadCount for any object that is no integer from least to most."""
    if not is_between(thing, least, most):
        raise BadCount(f"this is no number from {least} to {most}")


def need_fraction(thing):
    """BadFraction for any object that is no fraction."""
    if not is_fraction(thing):
        raise BadFraction("this is no fraction")


def need_share(thing):
    """BadShare for any object that is no fraction from 0 to 1."""
    if not is_share(thing):
        raise BadShare("this is no fraction from 0 to 1")


def need_shares(thing):
    """BadShares for any object that is no shares by itself."""
    if not are_shares(thing):
        raise BadShares("these are no shares")


def need_pairs(thing):
    """BadPairs for any object that is no pairs of a draw by itself."""
    if not are_pairs(thing):
        raise BadPairs("these are no pairs of a draw")


def need_counted_states(thing):
    """BadPairs for any object that is no pairs of states with numbers by itself."""
    if not are_counted_states(thing):
        raise BadPairs("these are no pairs of states with numbers")


def need_values(thing):
    """BadValues for any object that is no values by itself."""
    if not are_values(thing):
        raise BadValues("these are no values")


def need_values_from_0(thing):
    """BadValues for any object that is no values by itself, or has one below 0."""
    if not are_values_from_0(thing):
        raise BadValues("these are no values from 0 on")


def need_table(thing):
    """BadTable for any object that is no table by itself."""
    if not is_table_alone(thing):
        raise BadTable("this is no table")


def need_two_tables(variables, table, other):
    """BadVars, BadTable for what is none by itself."""
    need_vars(variables)
    need_table(table)
    need_table(other)


def need_loop_table(condition, variables, table):
    """BadCondition, BadVars, BadTable for what is none by itself."""
    need_condition(condition)
    need_vars(variables)
    need_table(table)


def need_tickets(thing):
    """BadTickets, with its place, for any object that is no tickets by itself."""
    place = wrong_ticket(thing)
    if place is not None:
        raise BadTickets(place)


def need_coins(thing):
    """BadCoins for any object that is no coin machine."""
    if not is_coin_machine(thing):
        raise BadCoins("this is no coin machine")


def need_parts(thing, least):
    """BadParts for any object that is no parts, so many or more."""
    if not are_parts(thing) or len(thing) < least:
        raise BadParts("these are no parts")


def need_game(thing):
    """BadGame for any object that is no game by itself."""
    if not is_game_alone(thing):
        raise BadGame("this is no game")


def need_leaning(thing):
    """BadLeaning for any object that is no leaning by itself."""
    if not is_leaning(thing):
        raise BadLeaning("this is no leaning")


def need_news(thing):
    """BadNews for any object that is no news table."""
    if not is_news(thing):
        raise BadNews("this is no news table")


def need_two_news(news, other):
    """BadNews for either that is none."""
    need_news(news)
    need_news(other)


def need_news_list(thing):
    """BadNews for any object that is no list of news tables."""
    if not are_news(thing):
        raise BadNews("these are no news tables")


def need_noise(thing):
    """BadNoise for any object that is no noise by itself."""
    if not is_news(thing):
        raise BadNoise("this is no noise")


def need_no_loops(program):
    """HasLoops for a program with a while."""
    if any([statement[0] == "while" for statement in statements_in(program[1])]):
        raise HasLoops("a while stands in the program")


def need_no_choices(program):
    """HasChoices for a program with a choose."""
    if any([statement[0] == "choose" for statement in statements_in(program[1])]):
        raise HasChoices("a choose stands in the program")
