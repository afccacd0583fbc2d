"""Normal forms of programs without loops and choices, and programs of draws alone."""

from math import gcd

from alikechances.checks import need_counted_states, need_program, need_vars
from alikechances.exact import lowest
from alikechances.fits import need_fitting_counted_states
from alikechances.flows import program_rows
from alikechances.reckoning import all_states
from alikechances.rows import simplest
from alikechances.worlds import need_straight


def normal(program):
    """For each state ahead a tuple of it, the list of the states behind with their numbers, and what ends."""
    need_program(program)
    need_straight(program)
    states = all_states(program[0])
    return tuple([
        (state, numbered(states, row), lowest(sum(row[:-2]), sum(row)))
        for state, row in zip(states, program_rows(program))
    ])


def numbered(states, row):
    """The list of (state, number) of the states behind with a weight, in the least integers."""
    return [(state, number) for state, number in zip(states, simplest(row[:-2])) if number]


def draw_program(variables, pairs):
    """The program that from every state ends in the states of pairs with shares as their numbers."""
    need_vars(variables)
    need_counted_states(pairs)
    need_fitting_counted_states(pairs, variables)
    return (variables, drawn(variables, pairs))


def drawn(variables, pairs):
    """The statement that draws variables, one behind the other, by pairs of their values and a number."""
    name = variables[0][0]
    by_value = {}
    for state, number in pairs:
        by_value.setdefault(state[0], []).append((state[1:], number))
    act = drawn_one(name, {value: sum([number for _, number in rest]) for value, rest in by_value.items()})
    if len(variables) == 1:
        return act
    branch = ("skip",)
    for value in list(by_value)[::-1]:
        held = drawn(variables[1:], by_value[value])
        branch = ("if", ("is", ("var", name), ("num", value)), held, branch)
    return ("seq", (act, branch))


def drawn_one(name, numbers):
    """The draw of a variable by a number for each value, ascending; a set where there is just one."""
    if len(numbers) == 1:
        return ("set", name, ("num", min(numbers)))
    shared = 0
    for number in numbers.values():
        shared = gcd(shared, number)
    return ("draw", name, tuple([(("num", value), number // shared) for value, number in numbers.items()]))
