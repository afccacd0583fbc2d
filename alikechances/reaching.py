"""What can be come to in a layout by some way of choosing, and what surely.

Nodes are handed on as dicts that have them, with their ranks.
"""


def staying(layout, others):
    """The nodes from which by some way all runs stay for ever, or come to one of others, which none leaves."""
    found = {node: 0 for node in list(layout.ways) + others}
    gone = True
    while gone:
        gone = [node for node in layout.ways if node in found and not can_stay(layout, node, found)]
        for node in gone:
            del found[node]
    return found


def can_stay(layout, node, kept):
    """Whether by some way only kept nodes come next from a node."""
    held = [target in kept for target in layout.next_nodes(node)]
    return any(held) if layout.is_free(node) else all(held)


def coming_to(layout, goals, within):
    """The nodes, of those within, from which by some way a goal is come to through them, and the goals.

    The rank tells how many steps it takes at least.
    """
    found = {node: 0 for node in goals}
    rank = 0
    news = True
    while news:
        rank += 1
        news = [
            node for node in within
            if node not in found and any([target in found for target in layout.next_nodes(node)])
        ]
        for node in news:
            found[node] = rank
    return found


def sure_ranks(layout, goals):
    """The nodes from which some way comes to the goals with a weight of 1: the one that takes the least ranks."""
    kept = {node: 0 for node in list(layout.ways) + goals}
    while True:
        within = [node for node in layout.ways if can_stay(layout, node, kept)]
        ranks = coming_to(layout, goals, within)
        if len(ranks) == len(kept):
            return ranks
        kept = ranks
