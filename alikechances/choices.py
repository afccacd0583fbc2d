"""Ways of choosing, and the best and the worst that can be made of a program by them."""

from alikechances.checks import (
    need_condition,
    need_fraction,
    need_number,
    need_program,
    need_shares,
    need_state,
)
from alikechances.choosing import best_chance, best_picks, chance_by, first_picks, told
from alikechances.errors import BadNumber, BadWay, TooMany
from alikechances.exact import NOTHING, is_at_most, lowest, times, total
from alikechances.fits import need_fitting_shares, need_fitting_state, need_known_condition
from alikechances.flows import carried, row_of_shares
from alikechances.kinds import are_values, is_tuple_of, state_count
from alikechances.layouts import Layout
from alikechances.reaching import coming_to, staying, sure_ranks
from alikechances.rows import table_of, unit_rows
from alikechances.trees import statements_in
from alikechances.ways import entries_of, is_way_of, number_of_way, picks_of, way_count, way_of, way_with_number
from alikechances.worths import mean_worth

MOST_NODES = 200
MOST_NODES_WITH_LOOPS = 100


def need_way(program, way):
    """BadProgram, BadWay for what is no way of choosing for the program."""
    need_program(program)
    if not is_way_of(program, way):
        raise BadWay("this is no way of choosing for the program")


def need_few_nodes(program):
    """TooMany for a program with too many statements times states."""
    kinds = [statement[0] for statement in statements_in(program[1])]
    most = MOST_NODES_WITH_LOOPS if "while" in kinds else MOST_NODES
    if len(kinds) * state_count(program[0]) > most:
        raise TooMany("there are too many statements times states")


def need_kinds(program, shares, condition):
    """BadProgram, BadShares, BadCondition for what is none by itself."""
    need_program(program)
    need_shares(shares)
    need_condition(condition)


def need_fitting(program, shares, condition):
    """BadShares, BadCondition for what does not fit the program, then TooMany."""
    need_fitting_shares(shares, program[0])
    need_known_condition(condition, program[0])
    need_few_nodes(program)


def need_asked(program, condition):
    """All that can be wrong with a program and a condition that is asked behind it."""
    need_program(program)
    need_condition(condition)
    need_known_condition(condition, program[0])
    need_few_nodes(program)


def need_begun(program, state):
    """All that can be wrong with a program and a state that it begins with."""
    need_program(program)
    need_state(state)
    need_fitting_state(state, program[0])
    need_few_nodes(program)


def way_table(program, way):
    """The table of a program in which each choose takes the value that a way says."""
    need_way(program, way)
    layout = Layout(program)
    move = told(layout.tree, 0, picks_of(layout, way))
    return table_of(carried(move, unit_rows(layout.many), None))


def ways_many(program):
    """How many ways of choosing there are."""
    need_program(program)
    return way_count(entries_of(program))


def way_number(program, way):
    """The number of a way among all, ascending, from 0."""
    need_way(program, way)
    return number_of_way(entries_of(program), way)


def nth_way(program, number):
    """The way with a number."""
    need_program(program)
    need_number(number)
    entries = entries_of(program)
    if number >= way_count(entries):
        raise BadNumber("there are not so many ways")
    return way_with_number(entries, number)


def best_of_all(program, shares, condition, sign):
    """The layout of a program and what best_chance tells of it, all that can be wrong with these looked at."""
    need_kinds(program, shares, condition)
    need_fitting(program, shares, condition)
    layout = Layout(program)
    space = layout.space
    return (layout, best_chance(layout, row_of_shares(space, shares), space.truths(condition), sign))


def greatest(program, shares, condition):
    """The greatest chance of a condition over all ways of choosing, None if none lets anything by."""
    _, found = best_of_all(program, shares, condition, 1)
    return None if found is None else found[0]


def least(program, shares, condition):
    """The least chance of a condition over all ways of choosing, None if none lets anything by."""
    _, found = best_of_all(program, shares, condition, -1)
    return None if found is None else found[0]


def greatest_way(program, shares, condition):
    """A way with the greatest chance, None if there is none."""
    layout, found = best_of_all(program, shares, condition, 1)
    return None if found is None else way_of(layout, found[1])


def least_way(program, shares, condition):
    """A way with the least chance, None if there is none."""
    layout, found = best_of_all(program, shares, condition, -1)
    return None if found is None else way_of(layout, found[1])


def way_holds(program, shares, condition, fraction, thing):
    """Whether any object is a way with just this chance."""
    need_kinds(program, shares, condition)
    need_fraction(fraction)
    need_fitting(program, shares, condition)
    if not is_way_of(program, thing):
        return False
    layout = Layout(program)
    row = row_of_shares(layout.space, shares)
    chance = chance_by(layout, row, layout.space.truths(condition), picks_of(layout, thing))
    return chance == lowest(fraction[0], fraction[1])


def bound_paper(program, shares, condition):
    """A bound paper for the greatest chance, None if there is none."""
    layout, found = best_of_all(program, shares, condition, 1)
    return None if found is None else tuple([tuple(worths[:layout.many]) for worths in found[2]])


def bound_holds(program, shares, condition, fraction, thing):
    """Whether any object is a bound paper for a fraction."""
    need_kinds(program, shares, condition)
    need_fraction(fraction)
    need_fitting(program, shares, condition)
    layout = Layout(program)
    if not is_tuple_of(thing, layout.end + 1):
        return False
    if not all([are_values(values) and len(values) == layout.many for values in thing]):
        return False
    first = thing[0]
    gains = [times(share, first[layout.space.numbers[state]]) for state, share in shares]
    if total(gains)[0] > 0:
        return False
    return bounds_end(layout, condition, fraction, thing) and bounds_places(layout, fraction, thing)


def bounds_end(layout, condition, fraction, paper):
    """Whether the values at the end are as great as a bound paper needs them."""
    above, below = fraction
    return all([
        is_at_most(((below if truth else 0) - above, below), value)
        for truth, value in zip(layout.space.truths(condition), paper[-1])
    ])


def bounds_places(layout, fraction, paper):
    """Whether the values at all places but the end are as great as a bound paper needs them."""
    for node in layout.ways:
        bounds = least_worths(layout, node, paper)
        if not all([is_at_most(bound, paper[node[0]][node[1]]) for bound in bounds]):
            return False
    cost = (-fraction[0], fraction[1])
    endless = coming_to(layout, staying(layout, []), layout.ways)
    return all([is_at_most(cost, paper[place][at]) for place, at in endless])


def least_worths(layout, node, paper):
    """The list of what a value has to be at least at a node, by the values of what comes next."""
    ways = layout.ways[node]
    # What is refused counts 0: its place is beyond those of the paper.
    values = [NOTHING if target == layout.refused else paper[target[0]][target[1]] for target, _ in ways]
    return values if layout.is_free(node) else [mean_worth([weight for _, weight in ways], values)]


def states_ahead(layout, nodes):
    """The list of the states from which the nodes at the first place begin."""
    return [state for at, state in enumerate(layout.space.states) if (0, at) in nodes]


def can(program, condition):
    """The list of the states from which some way ends with a condition with a weight above 0."""
    need_asked(program, condition)
    layout = Layout(program)
    return states_ahead(layout, coming_to(layout, layout.ends(layout.space.truths(condition)), layout.ways))


def must(program, condition):
    """The list of the states from which every way lets something by and ends with a condition with all of that."""
    need_asked(program, condition)
    layout = Layout(program)
    wrong_ends = layout.ends([not truth for truth in layout.space.truths(condition)])
    wrong = coming_to(layout, wrong_ends + list(staying(layout, [])), layout.ways)
    # Where nothing wrong can be come to, a way that never comes to the end is one that is refused for sure.
    refused = staying(layout, [layout.refused])
    return states_ahead(layout, [node for node in layout.ways if node not in wrong and node not in refused])


def some_way_surely(program, condition):
    """The list of the states from which some way lets something by and ends with a condition with all of that."""
    need_asked(program, condition)
    layout = Layout(program)
    ends = layout.ends(layout.space.truths(condition))
    harmless = sure_ranks(layout, ends + [layout.refused])
    # A way to a right end within these nodes, and from all others the surest way to any goal, make one sure way.
    within = [node for node in layout.ways if node in harmless]
    return states_ahead(layout, coming_to(layout, ends, within))


def worst_cost(program, state):
    """The greatest cost over all ways of choosing, None if it is without end by some way."""
    need_begun(program, state)
    layout = Layout(program)
    endless = coming_to(layout, staying(layout, []), layout.ways)
    ending = [node for node in layout.ways if node not in endless]
    return best_cost_at(layout, state, ending, {}, 1)


def best_cost(program, state):
    """The least cost over all ways of choosing by which it has an end, None if there are none."""
    need_begun(program, state)
    layout = Layout(program)
    all_ends = layout.ends([True] * layout.many)
    ranks = sure_ranks(layout, all_ends + [layout.refused])
    return best_cost_at(layout, state, ranks, ranks, -1)


def best_cost_at(layout, state, free, ranks, sign):
    """The greatest or the least cost from a state, of ways begun with the least ranks; None unless it is free there."""
    at = layout.space.numbers[state]
    if (0, at) not in free:
        return None
    after = [NOTHING] * (layout.many + 2)
    _, worths = best_picks(layout, first_picks(layout, ranks), 1, after, sign, free)
    return worths[0][at]
