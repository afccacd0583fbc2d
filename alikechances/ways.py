"""Ways of choosing: for each choose, in the order of the text, and each state the number of the value that is taken."""

from alikechances.kinds import is_between, is_integer, is_tuple_of, is_tuple_of_integers
from alikechances.reckoning import all_states
from alikechances.trees import statements_in


def entries_of(program):
    """For each entry of a way of a program a tuple (number of the choose, state, how many values), ascending."""
    chooses = [statement for statement in statements_in(program[1]) if statement[0] == "choose"]
    states = all_states(program[0])
    return [(place, state, len(choose[2])) for place, choose in enumerate(chooses) for state in states]


def is_entry(thing, place, state, many):
    """Whether any object is the entry of a way for a choose and a state, with a number below so many."""
    if not is_tuple_of(thing, 3) or not is_integer(thing[0]) or not is_tuple_of_integers(thing[1]):
        return False
    return thing[:2] == (place, state) and is_between(thing[2], 0, many - 1)


def is_way_of(program, thing):
    """Whether any object is a way of choosing for a program."""
    entries = entries_of(program)
    if not is_tuple_of(thing, len(entries)):
        return False
    return all([
        is_entry(entry, place, state, many) for entry, (place, state, many) in zip(thing, entries)
    ])


def way_count(entries):
    """How many ways there are with these entries."""
    found = 1
    for _, _, many in entries:
        found *= many
    return found


def number_of_way(entries, way):
    """The number of a way among all with these entries, ascending."""
    found = 0
    for (_, _, many), (_, _, number) in zip(entries, way):
        found = found * many + number
    return found


def way_with_number(entries, number):
    """The way with a number among all with these entries, ascending."""
    found = []
    for place, state, many in entries[::-1]:
        number, taken = divmod(number, many)
        found.append((place, state, taken))
    return tuple(found[::-1])


def choose_nodes(layout):
    """The nodes of the chooses of a layout, in the order of a way's entries."""
    return [(place, at) for place in layout.chooses for at in range(layout.many)]


def picks_of(layout, way):
    """The picks that a way tells."""
    return {node: number for node, (_, _, number) in zip(choose_nodes(layout), way)}


def way_of(layout, picks):
    """The way that picks tell."""
    states = layout.space.states
    return tuple([
        (place, states[at], picks[(node, at)])
        for place, node in enumerate(layout.chooses) for at in range(layout.many)
    ])
