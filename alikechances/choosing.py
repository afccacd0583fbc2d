"""The best of all ways of choosing, found by making a way better as long as it can be.

The picks of a way are a dict: for each node of a choose the number of the value that is taken.
"""

from alikechances.ahead import share_let_by
from alikechances.exact import NOTHING, is_at_most, total
from alikechances.flows import carried
from alikechances.layouts import place_count
from alikechances.reaching import staying
from alikechances.worths import Reckoner


def told(move, place, picks):
    """A move that begins at a place with each choose done as picks tell."""
    kind = move[0]
    if kind == "seq":
        return ("seq", told_all(move[1], place, picks))
    if kind in ("if", "while"):
        held = told_all(move[2:], place + 1, picks)
        return (kind, move[1], *held)
    if kind == "choose":
        return ("set", [(ways[picks[(place, at)]],) for at, ways in enumerate(move[1])], 1)
    return move


def told_all(moves, place, picks):
    """The list of moves, of which one follows the other in the text, with each choose done as picks tell."""
    found = []
    for move in moves:
        found.append(told(move, place, picks))
        place += place_count(move)
    return found


def first_picks(layout, ranks):
    """The picks that take a next node of the least rank, one without a rank only where there is no other."""
    found = {}
    most = len(layout.ways) + 1
    for place in layout.chooses:
        for at in range(layout.many):
            held = [ranks.get(target, most) for target in layout.next_nodes((place, at))]
            found[(place, at)] = held.index(min(held))
    return found


def worths_by(layout, picks, price, after):
    """For each place, the end last, the worths there by the way of these picks."""
    reckoner = Reckoner(price)
    _, listed = reckoner.ahead(reckoner.solved(told(layout.tree, 0, picks)), after)
    return [*listed, after]


def is_better(one, other, sign):
    """Whether a worth is greater than another one, less if sign is -1; what is without end is never compared."""
    if one is None or other is None:
        return False
    return not is_at_most(one, other) if sign == 1 else not is_at_most(other, one)


def better_pick(worths, pick, sign):
    """The number of the best of worths, the one told unless another one is better."""
    for number, worth in enumerate(worths):
        if is_better(worth, worths[pick], sign):
            pick = number
    return pick


def best_picks(layout, picks, price, after, sign, free):
    """The picks that are best at all free nodes, and the worths by them, begun with picks that are made better.

    What is gained by going on for ever is not seen by looking one step ahead: where it counts as a gain, the picks
    begun with have to be those by which runs stay for ever where they can.
    """
    while True:
        worths = worths_by(layout, picks, price, after)
        better = {
            node: better_pick([worths[place][at] for place, at in layout.next_nodes(node)], pick, sign)
            if node in free else pick
            for node, pick in picks.items()
        }
        if better == picks:
            return (picks, worths)
        picks = better


def less_by(truths, fraction, sign):
    """What it is worth to come to each end if each run that is let by costs a fraction, as much as it gains; signed."""
    above, below = fraction
    gains = [(sign * ((below if truth else 0) - above), below) for truth in truths]
    return [*gains, NOTHING, (-sign * above, below)]


def chance_by(layout, row, truths, picks):
    """The chance of the truths behind the way of these picks, None if nothing is let by."""
    behind = carried(told(layout.tree, 0, picks), [row], None)[0]
    return share_let_by(behind, sum([weight for weight, truth in zip(behind, truths) if truth]))


def best_chance(layout, row, truths, sign):
    """The greatest chance of the truths of all ways, the least if sign is -1; None if none lets anything by.

    A tuple (chance, picks, worths), worths those by which no way gains more than the chance costs. A cost that is
    too small (or great) by far first, then that of the best way found, until no way gains more than it costs.
    """
    begun = first_picks(layout, staying(layout, []))
    fraction = (-1, 1) if sign == 1 else (2, 1)
    found = None
    while True:
        after = less_by(truths, fraction, sign)
        picks, worths = best_picks(layout, begun, 0, after, 1, begun)
        gain = total([(weight * worth[0], worth[1]) for weight, worth in zip(row, worths[0])])
        if gain[0] <= 0:
            return None if found is None else (fraction, found, worths)
        found = picks
        fraction = chance_by(layout, row, truths, picks)
