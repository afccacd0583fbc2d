"""Rows carried through programs without choices.

Loops are worked out exactly, or, where rounds are told, go round at most so
many times each time they are come to, what would go on counted as endless. A
loop that was worked out already is a move ("loop", truths, move, rows, prices),
with the rows of the whole loop; the prices are of no matter here.
"""

from math import lcm

from alikechances.moves import Space
from alikechances.rows import (
    joined_rows,
    looped_rows,
    rows_of_rounds,
    simplest,
    sum_of_rows,
    unit_row,
    unit_rows,
)


def carried(move, rows, rounds):
    """What rows come to by a move; rounds is None where loops are to be worked out exactly."""
    kind = move[0]
    if kind == "seq":
        for part in move[1]:
            rows = carried(part, rows, rounds)
        return rows
    if kind == "if":
        return carried_apart(move, rows, rounds)
    if kind == "while":
        return joined_rows(rows, rows_of_loop(move[1], move[2], rounds))
    if kind == "loop":
        return joined_rows(rows, move[3])
    return [done(row, move[1], move[2]) for row in rows]


def done(row, ways, whole):
    """What a row comes to by an act."""
    many = len(ways)
    found = [0] * many + [row[many] * whole, row[many + 1] * whole]
    for weight, parts in zip(row, ways):
        if weight:
            for place, share in parts:
                found[place] += weight * share
    return simplest(found)


def where(row, truths):
    """The part of a row in the states with a condition."""
    kept = [weight if truth else 0 for weight, truth in zip(row, truths)]
    return kept + [0, 0]


def carried_apart(move, rows, rounds):
    """What rows come to by an if: each branch carries what comes to it."""
    parts = [where(row, move[1]) for row in rows]
    rests = [[weight - part for weight, part in zip(row, taken)] for row, taken in zip(rows, parts)]
    behind_parts = carried_if_any(move[2], parts, rounds)
    behind_rests = carried_if_any(move[3], rests, rounds)
    return [
        sum_of_rows(behind_parts[at], sum(parts[at]), behind_rests[at], sum(rests[at]))
        for at in range(len(rows))
    ]


def carried_if_any(move, rows, rounds):
    """As carried, but rows of 0 alone are left alone: a loop that none comes to need not be worked out."""
    if not any([any(row) for row in rows]):
        return rows
    return carried(move, rows, rounds)


def rows_of_body(truths, body, rounds):
    """For each state the row of one round of a while: of its body, or, where it is left, of staying there."""
    many = len(truths)
    begun = [at for at in range(many) if truths[at]]
    behind_body = carried(body, [unit_row(many, at) for at in begun], rounds)
    by_state = {at: row for at, row in zip(begun, behind_body)}
    return [by_state.get(at, unit_row(many, at)) for at in range(many)]


def rows_of_loop(truths, body, rounds):
    """The rows of a while."""
    rows = rows_of_body(truths, body, rounds)
    return looped_rows(truths, rows) if rounds is None else rows_of_rounds(truths, rows, rounds)


def act_rows(space, act):
    """The rows of a statement in which no other one stands."""
    _, ways, whole = space.move(act)
    return [done(row, ways, whole) for row in unit_rows(len(space.states))]


def program_rows(program):
    """For each state ahead the row of a program without choices."""
    space = Space(program[0])
    return carried(space.move(program[1]), unit_rows(len(space.states)), None)


def row_from(program, state, rounds):
    """The row of a program without choices from a state, with at most so many rounds."""
    space = Space(program[0])
    row = unit_row(len(space.states), space.numbers[state])
    return carried(space.move(program[1]), [row], rounds)[0]


def row_of_shares(space, shares):
    """The row that shares of states are."""
    whole = 1
    for _, (_, below) in shares:
        whole = lcm(whole, below)
    row = [0] * (len(space.states) + 2)
    for state, (above, below) in shares:
        row[space.numbers[state]] = above * (whole // below)
    return simplest(row)


def row_behind(program, shares):
    """The row that shares of states ahead come to by a program without choices."""
    space = Space(program[0])
    return carried(space.move(program[1]), [row_of_shares(space, shares)], None)[0]
