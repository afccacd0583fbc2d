"""What is sure and possible, and how far apart programs are."""

from alikechances.checks import need_condition, need_no_choices, need_program, need_two_programs
from alikechances.exact import NOTHING, is_at_most, lowest
from alikechances.fits import need_comparable, need_known_condition
from alikechances.flows import program_rows
from alikechances.moves import Space
from alikechances.reckoning import all_states
from alikechances.sameness import lets_by


def need_asked(program, condition):
    """All that can be wrong with a program and a condition that is asked behind it."""
    need_program(program)
    need_condition(condition)
    need_no_choices(program)
    need_known_condition(condition, program[0])


def sure(program, condition):
    """The list of the states from which all that is let by ends with the condition."""
    need_asked(program, condition)
    space = Space(program[0])
    truths = space.truths(condition)
    return [state for state, row in zip(space.states, program_rows(program)) if ends_with(row, truths)]


def ends_with(row, truths):
    """Whether all that a row lets by is in states with a truth."""
    return row[-1] == 0 and all([truth or weight == 0 for weight, truth in zip(row, truths)])


def possible(program, condition):
    """The list of the states from which some weight ends with the condition."""
    need_asked(program, condition)
    space = Space(program[0])
    truths = space.truths(condition)
    return [
        state for state, row in zip(space.states, program_rows(program))
        if any([truth and weight > 0 for weight, truth in zip(row, truths)])
    ]


def less_sure(program, other):
    """Whether from each state each state behind has at most the weight that the other program gives it."""
    need_two_programs(program, other)
    need_comparable(program, other)
    return all([
        is_at_most((weight, sum(row)), (other_weight, sum(other_row)))
        for row, other_row in zip(program_rows(program), program_rows(other))
        for weight, other_weight in zip(row[:-2], other_row[:-2])
    ])


def apart(program, other):
    """The greatest difference of the chances of a condition from one state, that state, and the states to ask for."""
    need_two_programs(program, other)
    need_comparable(program, other)
    states = all_states(program[0])
    rows = program_rows(program)
    others = program_rows(other)
    if [lets_by(row) for row in rows] != [lets_by(row) for row in others]:
        return None
    found = (NOTHING, states[0], [])
    for state, row, other_row in zip(states, rows, others):
        fraction, behind = difference(states, row, other_row)
        if not is_at_most(fraction, found[0]):
            found = (fraction, state, behind)
    return found


def difference(states, row, other):
    """How far the chances of a condition can differ by two rows, and the states to ask for."""
    if not lets_by(row):
        return (NOTHING, [])
    whole = sum(row) - row[-2]
    other_whole = sum(other) - other[-2]
    gaps = [weight * other_whole - other_weight * whole for weight, other_weight in zip(row[:-2], other[:-2])]
    more = sum([gap for gap in gaps if gap > 0])
    less = sum([-gap for gap in gaps if gap < 0])
    if less > more:
        behind = [state for state, gap in zip(states, gaps) if gap < 0]
    else:
        behind = [state for state, gap in zip(states, gaps) if gap > 0]
    return (lowest(max(more, less), whole * other_whole), behind)
