"""Digits of two kinds of fractions, behind the point, and the rests behind them.

The rest of a fraction at a depth is what is left of it behind so many digits,
taken as many times twice, as an integer over the fraction's number below.
"""

from alikechances.errors import TooMany
from alikechances.exact import lowest, plus
from alikechances.kinds import MOST_NODES


def digit_cost(part):
    """The sum of k over 2 ** k over the places k of the ones of a fraction's digits.

    A one at the place k adds 1 over 2 ** k to what is left at each of the k
    depths ahead of it: so it is the sum of all rests, each over 2 ** its depth.
    """
    above, below = lowest(part[0], part[1])
    rests, first = rests_until_again(above % below, below)
    cycle = 0
    whole = 1
    for rest in rests[first:]:
        cycle = 2 * cycle + rest
        whole *= 2
    found = lowest(2 * cycle, whole - 1)
    for rest in rests[:first][::-1]:
        found = plus((rest, 1), (found[0], 2 * found[1]))
    return lowest(found[0], found[1] * below)


def rests_until_again(rest, below):
    """The list of the rests at each depth until one comes again, and the depth at which that one was."""
    depths = {}
    rests = []
    while rest not in depths:
        depths[rest] = len(rests)
        rests.append(rest)
        rest = 2 * rest % below
    return (rests, depths[rest])


def machine_for(parts):
    """The coin machine for two parts or more in lowest terms whose nodes are the rests at each depth.

    TooMany if these are more nodes than a coin machine may have.
    """
    belows = [below for _, below in parts]
    rests = tuple([above for above, _ in parts])
    starts = {}
    nodes = []
    while rests not in starts:
        many = node_count(rests, belows)
        if len(nodes) + many > MOST_NODES:
            raise TooMany("four hundred nodes are not enough")
        starts[rests] = len(nodes)
        ones = [("out", k) for k, (rest, below) in enumerate(zip(rests, belows)) if 2 * rest >= below]
        rests = tuple([2 * rest % below for rest, below in zip(rests, belows)])
        start = starts.get(rests, len(nodes) + many)
        slots = ones + [start + at for at in range(2 * many - len(ones))]
        nodes.extend([(slots[2 * at], slots[2 * at + 1]) for at in range(many)])
    return tuple(nodes)


def node_count(rests, belows):
    """What the rests add up to."""
    found = (0, 1)
    for rest, below in zip(rests, belows):
        found = plus(found, (rest, below))
    return found[0]
