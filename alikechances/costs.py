"""How many acts a program does in the mean until it ends or is refused."""

from alikechances.checks import need_condition, need_no_choices, need_program, need_state
from alikechances.exact import NOTHING, plus
from alikechances.fits import need_fitting_state, need_known_condition
from alikechances.moves import Space
from alikechances.passes import bettered
from alikechances.worths import Reckoner


def statement_costs(space, statement):
    """For each state the cost of a statement without choices."""
    reckoner = Reckoner(1)
    many = len(space.states)
    worths, _ = reckoner.ahead(reckoner.solved(space.move(statement)), [NOTHING] * (many + 2))
    return worths[:many]


def cost(program, state):
    """The expected number of acts and asked conditions from a state, None if it may go on for ever."""
    need_program(program)
    need_state(state)
    need_no_choices(program)
    need_fitting_state(state, program[0])
    space = Space(program[0])
    return statement_costs(space, program[1])[space.numbers[state]]


def costs(program):
    """The tuple of the costs from all states."""
    need_program(program)
    need_no_choices(program)
    return tuple(statement_costs(Space(program[0]), program[1]))


def loop_gain(condition, program):
    """For each state by how much the cost of a while falls if its body is bettered, None where it has none."""
    need_condition(condition)
    need_program(program)
    need_no_choices(program)
    need_known_condition(condition, program[0])
    space = Space(program[0])
    better, _ = bettered(program)
    old = statement_costs(space, ("while", condition, program[1]))
    new = statement_costs(space, ("while", condition, better[1]))
    return tuple([
        None if before is None or after is None else plus(before, (-after[0], after[1]))
        for before, after in zip(old, new)
    ])
