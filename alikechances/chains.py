"""Chains of nodes worked out exactly: what they end in, and after how many steps.

A chain is a dict that has for each node a dict from what comes next to its
weight, an integer above 0; what comes next and is no node is an end. A way is
a tuple (weights, steps): such a dict, and a number which over the sum of the
weights is the expected number of steps that are done until it comes to them.
"""

from math import gcd

from alikechances.exact import lowest

ENDLESS = "endless"


def nodes_met(chain, start):
    """The list of the nodes that are come to from one, itself among them."""
    found = {start: True}
    todo = [start]
    while todo:
        node = todo.pop()
        for target in chain[node]:
            if target in chain and target not in found:
                found[target] = True
                todo.append(target)
    return list(found)


def nodes_that_end(chain):
    """A dict that has the nodes from which an end is come to."""
    leading = {}
    for node, weights in chain.items():
        for target in weights:
            leading.setdefault(target, []).append(node)
    found = {}
    todo = [target for target in leading if target not in chain]
    while todo:
        target = todo.pop()
        for node in leading.get(target, []):
            if node not in found:
                found[node] = True
                todo.append(node)
    return found


def way_ahead(weights, chain, ending):
    """The way of one step, with the nodes from which no end is come to taken together as the end ENDLESS."""
    found = {}
    for target, weight in weights.items():
        known = ENDLESS if target in chain and target not in ending else target
        found[known] = found.get(known, 0) + weight
    return (found, sum(weights.values()))


def without_return(way, node):
    """The way of a node without what leads back to itself."""
    weights, steps = way
    return ({target: weight for target, weight in weights.items() if target != node}, steps)


def put_in(way, node, other):
    """A way on which a node is exchanged for the way from there."""
    weights, steps = way
    more, more_steps = other
    share = weights[node]
    whole = sum(more.values())
    shared = gcd(share, whole)
    share //= shared
    whole //= shared
    found = {target: weight * whole for target, weight in weights.items() if target != node}
    for target, weight in more.items():
        found[target] = found.get(target, 0) + share * weight
    return (found, steps * whole + share * more_steps)


def simplest_way(way):
    """The least way that means the same."""
    weights, steps = way
    shared = steps
    for weight in weights.values():
        shared = gcd(shared, weight)
        if shared == 1:
            return way
    return ({target: weight // shared for target, weight in weights.items()}, steps // shared)


def way_out(chain, start):
    """The way from a node to all ends, ENDLESS among them.

    One node after the other is left out, first those with the fewest ways on, so that few new ones come.
    """
    ending = nodes_that_end(chain)
    if start not in ending:
        return ({ENDLESS: 1}, 0)
    ways = {
        node: without_return(way_ahead(chain[node], chain, ending), node)
        for node in nodes_met(chain, start) if node in ending
    }
    while len(ways) > 1:
        left = min([node for node in ways if node != start], key=lambda other: len(ways[other][0]))
        way = ways.pop(left)
        for node in list(ways):
            if left in ways[node][0]:
                ways[node] = simplest_way(without_return(put_in(ways[node], left, way), node))
    return ways[start]


def ways_of_all(ways):
    """The ways of all nodes to the ends alone, of the ways of one step of theirs; each node leads to an end."""
    found = {node: without_return(way, node) for node, way in ways.items()}
    for left in ways:
        for node in ways:
            if node != left and left in found[node][0]:
                found[node] = simplest_way(without_return(put_in(found[node], left, found[left]), node))
    return found


def expected_steps(chain, start):
    """How many steps are done from a node in the mean, None if it goes on for ever with a weight above 0."""
    weights, steps = way_out(chain, start)
    return None if ENDLESS in weights else lowest(steps, sum(weights.values()))
