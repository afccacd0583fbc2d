"""All that a program can come to from a state, with its weights."""

from alikechances.flows import row_from
from alikechances.reckoning import all_states
from alikechances.rows import simplest


def weighed_outcomes(program, state):
    """The list of (outcome, weight) with weights above 0, the least integers in the shares of the outcomes.

    States ascending, then what is refused, then what never ends.
    """
    outcomes = [("ended", behind) for behind in all_states(program[0])] + [("refused",), ("endless",)]
    row = simplest(row_from(program, state, None))
    return [(outcome, weight) for outcome, weight in zip(outcomes, row) if weight]
