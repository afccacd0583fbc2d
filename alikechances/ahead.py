"""Shares of states carried ahead through a program."""

from alikechances.checks import need_condition, need_no_choices, need_program, need_shares
from alikechances.exact import NOTHING, lowest, total
from alikechances.fits import need_fitting_shares, need_known_condition
from alikechances.flows import row_behind
from alikechances.moves import Space


def need_shares_of(program, shares):
    """HasChoices, then BadShares for states of other variables."""
    need_no_choices(program)
    need_fitting_shares(shares, program[0])


def ahead(program, shares):
    """A tuple of the list of the shares behind, the weight refused and the endless one."""
    need_program(program)
    need_shares(shares)
    need_shares_of(program, shares)
    return weights_behind(program, shares)


def weights_behind(program, shares):
    """As ahead, of what are shares of states of the program's variables, perhaps none."""
    if not shares:
        return ([], NOTHING, NOTHING)
    states = Space(program[0]).states
    row = row_behind(program, shares)
    whole = total([share for _, share in shares])
    weights = [lowest(weight * whole[0], sum(row) * whole[1]) for weight in row]
    return (listed(states, weights), weights[-2], weights[-1])


def listed(states, weights):
    """The list of (state, weight) of the states that have one."""
    return [(state, weight) for state, weight in zip(states, weights) if weight[0]]


def chance(program, shares, condition):
    """The weight of ending with a condition over what is let by, None if nothing is."""
    need_program(program)
    need_shares(shares)
    need_condition(condition)
    need_shares_of(program, shares)
    need_known_condition(condition, program[0])
    row = row_behind(program, shares)
    truths = Space(program[0]).truths(condition)
    return share_let_by(row, sum([weight for weight, truth in zip(row, truths) if truth]))


def chance_never(program, shares):
    """The endless weight over what is let by, None if nothing is."""
    need_program(program)
    need_shares(shares)
    need_shares_of(program, shares)
    row = row_behind(program, shares)
    return share_let_by(row, row[-1])


def share_let_by(row, weight):
    """A weight of a row over all but what is refused in it, None if that is nothing."""
    let_by = sum(row) - row[-2]
    return lowest(weight, let_by) if let_by else None


def chances(program, shares):
    """The list of the states behind with their shares of what is let by."""
    need_program(program)
    need_shares(shares)
    need_shares_of(program, shares)
    row = row_behind(program, shares)
    if sum(row) == row[-2]:
        return []
    return listed(Space(program[0]).states, [share_let_by(row, weight) for weight in row])
