"""Machines that toss fair coins until they come to an outcome, and the best ones for given parts."""

from alikechances.chains import ENDLESS, expected_steps, way_out
from alikechances.checks import need_coins, need_count, need_no_choices, need_parts, need_program, need_state
from alikechances.digits import digit_cost, machine_for
from alikechances.errors import BadCoins, TooMany
from alikechances.exact import NOTHING, lowest, total
from alikechances.fits import need_fitting_state
from alikechances.kinds import MOST_BELOW, MOST_OUTCOMES, is_coin_machine, is_integer
from alikechances.outcomes import weighed_outcomes


def chain_of(machine):
    """The chain of a coin machine's nodes; its ends are the outcomes."""
    found = {}
    for number, (heads, tails) in enumerate(machine):
        found[number] = {heads: 2} if heads == tails else {heads: 1, tails: 1}
    return found


def most_outcome(machine):
    """The greatest outcome at any node, -1 if there is none."""
    return max([-1] + [target[1] for node in machine for target in node if not is_integer(target)])


def coin_shares(machine, count):
    """The weights of so many outcomes, and last that of tossing for ever."""
    need_coins(machine)
    need_count(count, MOST_OUTCOMES, 1)
    if most_outcome(machine) >= count:
        raise BadCoins("an outcome of the coin machine is beyond")
    return shares_of(machine, count)


def shares_of(machine, count):
    """As coin_shares, of a coin machine without outcomes beyond."""
    weights, _ = way_out(chain_of(machine), 0)
    whole = sum(weights.values())
    ends = [("out", outcome) for outcome in range(count)] + [ENDLESS]
    return tuple([lowest(weights.get(end, 0), whole) for end in ends])


def coin_cost(machine):
    """The expected number of tosses, None if it tosses for ever with a weight above 0."""
    need_coins(machine)
    return expected_steps(chain_of(machine), 0)


def toss(machine, tosses):
    """The outcome that tosses lead to, None if they are too few, and how many were tossed."""
    need_coins(machine)
    node = 0
    for at, heads in enumerate(tosses):
        target = machine[node][0 if heads else 1]
        if not is_integer(target):
            return (target[1], at + 1)
        node = target
    return (None, len(tosses))


def coins_least(parts):
    """The least expected number of tosses of all coin machines with these parts."""
    need_parts(parts, 1)
    return total([digit_cost(part) for part in parts])


def coin_machine(parts):
    """A coin machine with these parts that tosses as few coins as can be."""
    need_parts(parts, 2)
    return machine_for([lowest(above, below) for above, below in parts])


def coin_holds(parts, thing):
    """Whether any object is a coin machine with these parts, no outcome beyond and no endless weight."""
    need_parts(parts, 1)
    return is_machine_for(parts, thing)


def is_machine_for(parts, thing):
    """As coin_holds, of what is parts."""
    many = len(parts)
    if not is_coin_machine(thing) or most_outcome(thing) >= many:
        return False
    wanted = [lowest(above, below) for above, below in parts] + [NOTHING]
    return shares_of(thing, many) == tuple(wanted)


def coin_best(parts, thing):
    """Whether any object is a coin machine with these parts that tosses as few coins as can be."""
    need_parts(parts, 1)
    return is_machine_for(parts, thing) and coin_cost(thing) == coins_least(parts)


def row_machine(program, state):
    """The tuple of what a program can come to from a state, and a coin machine with their weights."""
    need_program(program)
    need_state(state)
    need_no_choices(program)
    need_fitting_state(state, program[0])
    weighed = weighed_outcomes(program, state)
    outcomes = tuple([outcome for outcome, _ in weighed])
    if len(outcomes) == 1:
        return (outcomes, None)
    whole = sum([weight for _, weight in weighed])
    parts = [lowest(weight, whole) for _, weight in weighed]
    if any([below > MOST_BELOW for _, below in parts]):
        raise TooMany("a number below is above two hundred")
    return (outcomes, machine_for(parts))
