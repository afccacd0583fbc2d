"""Programs without loops and choices worked by all worlds, and loops made an end of by rounds."""

from alikechances.building import put_together, whole
from alikechances.checks import (
    need_count,
    need_no_choices,
    need_no_loops,
    need_number,
    need_program,
    need_state,
    need_world,
)
from alikechances.errors import BadNumber, BadProgram, TooMany
from alikechances.exact import NOTHING, lowest, plus
from alikechances.fits import need_fitting_state
from alikechances.flows import row_from
from alikechances.moves import Space
from alikechances.reckoning import all_states
from alikechances.runs import Walk, runs_behind, world_count
from alikechances.trees import DEEPEST_STATEMENT, MOST_STATEMENTS, count_of

MOST_WORLDS = 2000
MOST_ROUNDS = 20


def need_straight(program):
    """HasLoops, then HasChoices."""
    need_no_loops(program)
    need_no_choices(program)


def need_few(many):
    """TooMany for more worlds than may be looked at."""
    if many > MOST_WORLDS:
        raise TooMany("there are more than two thousand worlds")


def begun(program, state):
    """The space of a program, its move, and the number of a state; BadState if it is none of the program's."""
    need_fitting_state(state, program[0])
    space = Space(program[0])
    return (space, space.move(program[1]), space.numbers[state])


def world_list(space, move, number):
    """The list of (world, weight, end), ascending, from the state with a number."""
    refused = len(space.states)
    runs = runs_behind(move, ((), 1, 1, number), refused)
    return [
        (world, lowest(above, below), None if place == refused else space.states[place])
        for world, above, below, place in runs
    ]


def worlds(program, state):
    """The list of (world, weight, end), ascending, of a program from a state."""
    need_program(program)
    need_state(state)
    need_straight(program)
    space, move, start = begun(program, state)
    need_few(world_count(move, len(space.states), start))
    return world_list(space, move, start)


def world_of(program, state, number):
    """The world with a number in the list of worlds."""
    need_program(program)
    need_state(state)
    need_number(number)
    need_straight(program)
    space, move, start = begun(program, state)
    many = world_count(move, len(space.states), start)
    if number >= many:
        raise BadNumber("there are not so many worlds")
    need_few(many)
    return world_list(space, move, start)[number][0]


def walked(program, state, world):
    """The walk of a program by a world; BadWorld if it is none of the program's."""
    space, move, start = begun(program, state)
    walk = Walk(world, start, len(space.states))
    walk.go(move)
    walk.finish()
    return walk


def run_world(program, state, thing):
    """The list of the state ahead and of those behind each set and draw that is done in a world."""
    need_program(program)
    need_state(state)
    need_world(thing)
    need_straight(program)
    walk = walked(program, state, thing)
    states = all_states(program[0])
    return [states[place] for place in walk.places]


def line_of_worlds(space, listed):
    """The line of a table that a list of (world, weight, end) adds up to."""
    found = {state: NOTHING for state in space.states}
    refused = NOTHING
    for _, weight, end in listed:
        if end is None:
            refused = plus(refused, weight)
        else:
            found[end] = plus(found[end], weight)
    return (tuple([found[state] for state in space.states]), refused, NOTHING)


def worlds_table(program):
    """The table of a program, by all worlds from all states."""
    need_program(program)
    need_straight(program)
    space = Space(program[0])
    move = space.move(program[1])
    starts = range(len(space.states))
    for start in starts:
        need_few(world_count(move, len(space.states), start))
    return tuple([line_of_worlds(space, world_list(space, move, start)) for start in starts])


def unrolled(program, count):
    """The program in which each while goes round at most so many times and refuses what would go on."""
    need_program(program)
    need_count(count, MOST_ROUNDS)
    return whole(program[0], unrolled_statement(program[1], count))


def unrolled_statement(statement, count):
    """A statement with each while unrolled; what grows too great stops it with BadProgram."""
    kind = statement[0]
    if kind == "seq":
        return ("seq", tuple([unrolled_statement(part, count) for part in statement[1]]))
    if kind == "if":
        branches = [unrolled_statement(part, count) for part in statement[2:]]
        return (kind, statement[1], *branches)
    if kind == "while":
        return unrolled_loop(statement, count)
    return statement


def unrolled_loop(loop, count):
    """A while unrolled. All that is built comes to stand in the whole, so none of it may be too great."""
    _, condition, body = loop
    found = ("see", ("not", condition))
    once = unrolled_statement(body, count) if count else body
    for _ in range(count):
        found = ("if", condition, put_together(once, found), ("skip",))
        if count_of(found, DEEPEST_STATEMENT, MOST_STATEMENTS) is None:
            raise BadProgram("the program unrolled is too great")
    return found


def lost(program, state, count):
    """The fraction that a program loses from a state by being unrolled."""
    need_program(program)
    need_state(state)
    need_count(count, MOST_ROUNDS)
    need_no_choices(program)
    need_fitting_state(state, program[0])
    row = row_from(program, state, count)
    return lowest(row[-1], sum(row))
