"""What is an integer, a fraction, a state, variables, shares, values and a table, asked of any object."""

from math import gcd

from alikechances.words import is_name

MOST_VARIABLES = 4
LEAST_SIZE = 2
MOST_SIZE = 6
MOST_STATES = 24
MOST_COUNTED = 99
MOST_NODES = 400
MOST_OUTCOMES = 26
MOST_BELOW = 200
MOST_ROWS = 6
MOST_COLUMNS = 6
MOST_ACTIONS = 6
MOST_NEWS = 6


def is_integer(thing):
    """Whether any object is an int and no bool."""
    return isinstance(thing, int) and not isinstance(thing, bool)


def is_between(thing, low, high):
    """Whether any object is an integer from low to high."""
    return is_integer(thing) and low <= thing <= high


def is_tuple_of(thing, many):
    """Whether any object is a tuple of so many."""
    return isinstance(thing, tuple) and len(thing) == many


def is_fraction(thing):
    """Whether any object is a fraction, in lowest terms or not."""
    return is_tuple_of(thing, 2) and is_integer(thing[0]) and is_integer(thing[1]) and thing[1] >= 1


def is_weight(thing):
    """Whether any object is a fraction from 0 on in lowest terms, as tables want it."""
    return is_fraction(thing) and thing[0] >= 0 and gcd(thing[0], thing[1]) == 1


def is_share(thing):
    """Whether any object is a fraction from 0 to 1."""
    return is_fraction(thing) and 0 <= thing[0] <= thing[1]


def are_names(thing):
    """Whether any object is a tuple of names, none of them twice."""
    if not isinstance(thing, tuple) or not all([is_name(name) for name in thing]):
        return False
    return len(set(thing)) == len(thing)


def is_sized_name(thing):
    """Whether any object is a variable: a name with a size."""
    return is_tuple_of(thing, 2) and is_name(thing[0]) and is_between(thing[1], LEAST_SIZE, MOST_SIZE)


def state_count(variables):
    """How many states variables have."""
    many = 1
    for _, size in variables:
        many *= size
    return many


def are_variables(thing):
    """Whether any object is variables."""
    if not isinstance(thing, tuple) or not 1 <= len(thing) <= MOST_VARIABLES:
        return False
    if not all([is_sized_name(variable) for variable in thing]):
        return False
    return are_names(tuple([name for name, _ in thing])) and state_count(thing) <= MOST_STATES


def is_tuple_of_integers(thing):
    """Whether any object is a state by itself, of whatever variables."""
    return isinstance(thing, tuple) and all([is_integer(value) for value in thing])


def are_from_0(thing):
    """Whether any object is a tuple of integers from 0 on, as ranks and worlds by themselves are."""
    return is_tuple_of_integers(thing) and all([number >= 0 for number in thing])


def fits_state(state, variables):
    """Whether a tuple of integers is a state of the variables."""
    if len(state) != len(variables):
        return False
    return all([0 <= value < size for value, (_, size) in zip(state, variables)])


def is_share_of_state(thing):
    """Whether any object is a tuple (state, fraction above 0), of whatever variables."""
    if not is_tuple_of(thing, 2) or not is_tuple_of_integers(thing[0]):
        return False
    return is_fraction(thing[1]) and thing[1][0] > 0


def are_shares(thing):
    """Whether any object is shares by itself, of whatever variables."""
    if not isinstance(thing, list) or not thing or not all([is_share_of_state(part) for part in thing]):
        return False
    return are_ascending(thing)


def is_counted_state(thing):
    """Whether any object is a tuple (state, integer from 1 on), of whatever variables."""
    return is_tuple_of(thing, 2) and is_tuple_of_integers(thing[0]) and is_integer(thing[1]) and thing[1] >= 1


def are_counted_states(thing):
    """Whether any object is pairs by itself as a normal form has them, of whatever variables, and few enough."""
    if not isinstance(thing, list) or not thing or not all([is_counted_state(pair) for pair in thing]):
        return False
    return are_ascending(thing) and sum([number for _, number in thing]) <= MOST_COUNTED


def are_ascending(pairs):
    """Whether a list of (state, ..) has its states ascending, none of them twice."""
    return all([pairs[at][0] < pairs[at + 1][0] for at in range(len(pairs) - 1)])


def are_values(thing):
    """Whether any object is values by itself, however many."""
    return isinstance(thing, tuple) and all([is_fraction(value) for value in thing])


def are_values_from_0(thing):
    """Whether any object is values by itself, none of them below 0."""
    return are_values(thing) and all([above >= 0 for above, _ in thing])


def is_row(thing, many):
    """Whether any object is a row of a table with so many states."""
    if not is_tuple_of(thing, 3) or not is_tuple_of(thing[0], many):
        return False
    weights = (*thing[0], thing[1], thing[2])
    return all([is_weight(weight) for weight in weights]) and are_together_one(weights)


def are_together_one(weights):
    """Whether fractions add up to 1."""
    above = 0
    below = 1
    for part, whole in weights:
        above = above * whole + part * below
        below = below * whole
        shared = gcd(above, below)
        above //= shared
        below //= shared
    return above == below


def is_table_alone(thing):
    """Whether any object is a table by itself, of whatever variables."""
    if not isinstance(thing, tuple) or len(thing) < 2:
        return False
    return all([is_row(row, len(thing)) for row in thing])


def wrong_ticket(thing):
    """The index of the first entry of a list that is no integer from 0 on, None without one; -1 for no list."""
    if not isinstance(thing, list):
        return -1
    for at, ticket in enumerate(thing):
        if not is_integer(ticket) or ticket < 0:
            return at
    return None


def is_target(thing, many):
    """Whether any object is what a toss of a coin machine with so many nodes leads to."""
    if is_integer(thing):
        return 0 <= thing < many
    return is_tuple_of(thing, 2) and thing[0] == "out" and is_between(thing[1], 0, MOST_OUTCOMES - 1)


def is_coin_machine(thing):
    """Whether any object is a coin machine."""
    if not isinstance(thing, tuple) or not 1 <= len(thing) <= MOST_NODES:
        return False
    many = len(thing)
    return all([
        is_tuple_of(node, 2) and is_target(node[0], many) and is_target(node[1], many) for node in thing
    ])


def is_part(thing):
    """Whether any object is a fraction above 0 with a number below that is not too great in lowest terms."""
    return is_fraction(thing) and thing[0] > 0 and thing[1] // gcd(thing[0], thing[1]) <= MOST_BELOW


def are_parts(thing):
    """Whether any object is parts."""
    if not isinstance(thing, tuple) or not 1 <= len(thing) <= MOST_OUTCOMES:
        return False
    return all([is_part(part) for part in thing]) and are_together_one(thing)


def are_states_ahead(thing):
    """Whether any object is a tuple of one to six states by itself, ascending, of whatever variables."""
    if not isinstance(thing, tuple) or not 1 <= len(thing) <= MOST_ROWS:
        return False
    if not all([is_tuple_of_integers(state) for state in thing]):
        return False
    return all([thing[at] < thing[at + 1] for at in range(len(thing) - 1)])


def is_leaning(thing):
    """Whether any object is a leaning by itself, of however many: fractions from 0 on, together 1."""
    return are_values_from_0(thing) and are_together_one(thing)


def is_news(thing):
    """Whether any object is a news table."""
    if not isinstance(thing, tuple) or not 1 <= len(thing) <= MOST_ROWS:
        return False
    if not all([is_leaning(row) and len(row) <= MOST_COLUMNS for row in thing]):
        return False
    return are_as_long(thing)


def are_as_long(things):
    """Whether all of one thing or more are as long."""
    return all([len(thing) == len(things[0]) for thing in things])


def are_news(thing):
    """Whether any object is a list of one to six news tables."""
    if not isinstance(thing, list) or not 1 <= len(thing) <= MOST_NEWS:
        return False
    return all([is_news(news) for news in thing])


def is_game_alone(thing):
    """Whether any object is a game by itself, for however many things that can be so."""
    if not isinstance(thing, tuple) or not 1 <= len(thing) <= MOST_ACTIONS:
        return False
    return all([are_values(action) and len(action) > 0 for action in thing]) and are_as_long(thing)
