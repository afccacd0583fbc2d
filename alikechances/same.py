"""Which programs are alike in all surroundings, and what parts those that are not."""

from alikechances.checks import need_names, need_no_choices, need_program, need_two_programs
from alikechances.errors import NotAlike
from alikechances.exact import lowest
from alikechances.fits import need_comparable, need_known_names
from alikechances.flows import program_rows
from alikechances.reckoning import all_states
from alikechances.rows import simplest
from alikechances.sameness import (
    are_multiples_of_one,
    direction,
    fraction_let_by,
    multiple_of_rows,
    parting_of_rows,
)
from alikechances.views import View


def rows_of_two(program, other):
    """The rows of two programs that can be compared."""
    need_two_programs(program, other)
    need_comparable(program, other)
    return (program_rows(program), program_rows(other))


def alike(program, other):
    """Whether two programs give the same answers in all surroundings."""
    rows, others = rows_of_two(program, other)
    return multiple_of_rows(rows, others) is not None


def multiple(program, other):
    """The fraction by which the first one's weights are the second one's, None if they are not alike."""
    rows, others = rows_of_two(program, other)
    return multiple_of_rows(rows, others)


def alike_within(program, other):
    """Whether two programs give the same answers in surroundings without further variables."""
    rows, others = rows_of_two(program, other)
    return multiple_of_rows(rows, others) is not None or are_multiples_of_one(rows, others)


def same_table(program, other):
    """Whether two programs have the same table."""
    rows, others = rows_of_two(program, other)
    return [simplest(row) for row in rows] == [simplest(row) for row in others]


def parting(program, other):
    """The first of what parts two programs, None if they are alike."""
    rows, others = rows_of_two(program, other)
    states = all_states(program[0])
    return parting_of_rows(states, states, rows, others)


def branch_parting(program, other):
    """The least state from which a branch around them parts two programs that are alike, with both chances."""
    rows, others = rows_of_two(program, other)
    if multiple_of_rows(rows, others) is None:
        raise NotAlike("the programs are not alike")
    for state, row, other_row in zip(all_states(program[0]), rows, others):
        chance = chance_of_done(row)
        other_chance = chance_of_done(other_row)
        if chance != other_chance:
            return (state, chance, other_chance)
    return None


def chance_of_done(row):
    """The chance that what has this row was done, where a fair coin told whether to do or to skip it."""
    above, below = fraction_let_by(row)
    return lowest(above, above + below)


def viewed_rows_of_two(program, other, names):
    """What is seen by names, and the rows of two programs as they are seen."""
    need_two_programs(program, other)
    need_names(names)
    need_comparable(program, other)
    need_known_names(names, program[0])
    view = View(program[0], names)
    rows = [view.row(row) for row in program_rows(program)]
    return (view.seen, rows, [view.row(row) for row in program_rows(other)])


def alike_for(program, other, names):
    """Whether two programs are alike where only these variables are asked behind."""
    _, rows, others = viewed_rows_of_two(program, other, names)
    return multiple_of_rows(rows, others) is not None


def parting_for(program, other, names):
    """The first of what parts two programs where only these variables are asked behind."""
    seen, rows, others = viewed_rows_of_two(program, other, names)
    return parting_of_rows(all_states(program[0]), seen, rows, others)


def row_classes(program):
    """The list of the tuples of states ahead whose rows are multiples of one another."""
    need_program(program)
    need_no_choices(program)
    found = {}
    for state, row in zip(all_states(program[0]), program_rows(program)):
        found.setdefault(direction(row), []).append(state)
    return sorted([tuple(states) for states in found.values()])


def never_matters(program):
    """The list of the names of the variables whose values ahead change no chance."""
    need_program(program)
    need_no_choices(program)
    variables = program[0]
    states = all_states(variables)
    rows = program_rows(program)
    return sorted([
        name for place, (name, size) in enumerate(variables)
        if all([alike_from(states, rows, place, value) for value in range(1, size)])
    ])


def alike_from(states, rows, place, value):
    """Whether the rows from the states with a value at a place are one multiple of those with 0 there."""
    from_value = [row for state, row in zip(states, rows) if state[place] == value]
    from_0 = [row for state, row in zip(states, rows) if state[place] == 0]
    return multiple_of_rows(from_0, from_value) is not None
