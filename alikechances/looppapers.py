"""Papers that show what the table of a while is: its rows, and ways out of it."""

from alikechances.checks import need_loop_table
from alikechances.fits import need_fitting_loop_table
from alikechances.kinds import fits_state, is_table_alone, is_tuple_of, is_tuple_of_integers
from alikechances.moves import Space
from alikechances.ranks import least_ranks
from alikechances.rows import looped_rows, row_through, rows_of, table_of, unit_row


def ways_out(truths, rows):
    """For each state whether a way from there need not go on: the loop is left, or the body may not end."""
    many = len(truths)
    return [not truth or row[many] > 0 or row[many + 1] > 0 for truth, row in zip(truths, rows)]


def loop_paper(condition, variables, table):
    """The loop table paper with the first shortest ways."""
    need_loop_table(condition, variables, table)
    need_fitting_loop_table(condition, variables, table)
    space = Space(variables)
    truths = space.truths(condition)
    rows = rows_of(table)
    ranks = least_ranks(ways_out(truths, rows), rows)
    ways = [first_way(space.states, rows, ranks, at) for at in range(len(rows))]
    return (table_of(looped_rows(truths, rows)), tuple(ways))


def first_way(states, rows, ranks, at):
    """The first shortest way from the state with a number, None if there is none."""
    if ranks[at] is None:
        return None
    way = []
    while ranks[at] > 0:
        at = min([place for place in range(len(states)) if rows[at][place] and ranks[place] == ranks[at] - 1])
        way.append(states[at])
    return tuple(way)


def loop_paper_holds(condition, variables, table, thing):
    """Whether any object is a loop table paper."""
    need_loop_table(condition, variables, table)
    need_fitting_loop_table(condition, variables, table)
    if not is_paper_alone(thing, variables, len(table)):
        return False
    space = Space(variables)
    truths = space.truths(condition)
    body = rows_of(table)
    rows = rows_of(thing[0])
    if not are_looped(truths, body, rows):
        return False
    ways = [None if way is None else [space.numbers[state] for state in way] for way in thing[1]]
    outs = ways_out(truths, body)
    return all([
        is_right_way(at, ways, outs, truths, body, rows) for at in range(len(rows))
    ])


def is_paper_alone(thing, variables, many):
    """Whether any object has the form of a loop table paper, whatever it tells."""
    if not is_tuple_of(thing, 2) or not is_table_alone(thing[0]) or len(thing[0]) != many:
        return False
    if not is_tuple_of(thing[1], many):
        return False
    return all([way is None or are_states(way, variables) for way in thing[1]])


def are_states(thing, variables):
    """Whether any object is a tuple of states."""
    if not isinstance(thing, tuple):
        return False
    return all([is_tuple_of_integers(state) and fits_state(state, variables) for state in thing])


def are_looped(truths, body, rows):
    """Whether rows stay where the condition does not hold, and are the body's joined with them elsewhere."""
    many = len(rows)
    return rows == [
        row_through(body[at], rows) if truths[at] else unit_row(many, at) for at in range(many)
    ]


def is_right_way(at, ways, outs, truths, body, rows):
    """Whether a way, of numbers of states or None, is one from the state with a number."""
    way = ways[at]
    if outs[at]:
        return way == []
    if way is None:
        many = len(rows)
        led = [ways[place] for place in range(many) if body[at][place]]
        return rows[at] == unit_row(many, many + 1) and not any([other is not None for other in led])
    if not way or not outs[way[-1]] or not all([truths[place] for place in way[:-1]]):
        return False
    return all([body[before][behind] > 0 for before, behind in zip([at] + way[:-1], way)])
