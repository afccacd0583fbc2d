"""Programs with choices as what may come next from each place and state.

A node is (place, number of the state): places are those of the statements but
seqs, in the order of the text, then the end; behind it there is one node for
being refused. From a node of a choose one of the next nodes is taken, from any
other one they come by their weights.
"""

from alikechances.moves import Space
from alikechances.trees import statements_in


def place_count(move):
    """How many places a move has."""
    if move[0] == "seq":
        return sum([place_count(part) for part in move[1]])
    held = move[2:] if move[0] in ("if", "while") else ()
    return 1 + sum([place_count(part) for part in held])


class Layout:
    """The nodes of a program, with what may come next from each of them, and the places of its chooses."""

    def __init__(self, program):
        self.space = Space(program[0])
        self.many = len(self.space.states)
        self.kinds = [statement[0] for statement in statements_in(program[1])]
        self.end = len(self.kinds)
        self.refused = (self.end + 1, 0)
        self.chooses = [place for place, kind in enumerate(self.kinds) if kind == "choose"]
        self.tree = self.space.move(program[1])
        self.ways = {}
        self.lay(self.tree, 0, self.end)

    def lay(self, move, place, after):
        """Lays a move that begins at a place, and behind which another place follows."""
        kind = move[0]
        if kind == "seq":
            self.lay_all(move[1], place, after)
        elif kind == "if":
            other = place + 1 + place_count(move[2])
            self.fork(place, move[1], place + 1, other)
            self.lay(move[2], place + 1, after)
            self.lay(move[3], other, after)
        elif kind == "while":
            self.fork(place, move[1], place + 1, after)
            self.lay(move[2], place + 1, place)
        else:
            for at, ways in enumerate(move[1]):
                self.ways[(place, at)] = [(self.node(after, target), weight) for target, weight in ways]

    def lay_all(self, moves, place, after):
        """Lays moves one behind the other."""
        for part in moves[:-1]:
            behind = place + place_count(part)
            self.lay(part, place, behind)
            place = behind
        self.lay(moves[-1], place, after)

    def fork(self, place, truths, held, other):
        """Lays what an if or a while comes to: the place that it holds first, or another one."""
        for at, truth in enumerate(truths):
            self.ways[(place, at)] = [((held if truth else other, at), 1)]

    def node(self, place, target):
        """The node at a place for the number of a state, or, where that is none, the one for being refused."""
        return (place, target) if target < self.many else self.refused

    def next_nodes(self, node):
        """The nodes that may come next from one."""
        return [target for target, _ in self.ways[node]]

    def is_free(self, node):
        """Whether what comes next from a node is taken, not come to by weights."""
        return self.kinds[node[0]] == "choose"

    def ends(self, truths):
        """The nodes of the end for the states with a truth."""
        return [(self.end, at) for at, truth in enumerate(truths) if truth]
