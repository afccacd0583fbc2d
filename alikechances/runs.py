"""Worlds of programs without loops and choices, over the numbers of states.

A run is a tuple (world, above, below, place): what was drawn, its weight as a
fraction perhaps not in lowest terms, and the number of the state behind, the
number of the states where it is refused.
"""

from alikechances.errors import BadWorld


def runs_behind(move, run, refused):
    """The list of the runs that a run comes to by a move, their worlds ascending."""
    kind = move[0]
    world, above, below, place = run
    if place == refused:
        return [run]
    if kind == "seq":
        runs = [run]
        for part in move[1]:
            runs = [behind for ahead in runs for behind in runs_behind(part, ahead, refused)]
        return runs
    if kind == "if":
        return runs_behind(move[2] if move[1][place] else move[3], run, refused)
    ways = move[1][place]
    if kind == "draw":
        return [
            ((*world, number), above * weight, below * move[2], target)
            for number, (target, weight) in enumerate(ways)
        ]
    return [(world, above, below, ways[0][0])]


def counts_behind(move, counts):
    """How many worlds come to each state, and last to being refused, of how many were there ahead."""
    kind = move[0]
    if kind == "seq":
        for part in move[1]:
            counts = counts_behind(part, counts)
        return counts
    if kind == "if":
        taken = [count if truth else 0 for count, truth in zip(counts, move[1])] + [0]
        rest = [count - part for count, part in zip(counts, taken)]
        taken = counts_behind(move[2], taken)
        rest = counts_behind(move[3], rest)
        return [one + other for one, other in zip(taken, rest)]
    found = [0] * (len(counts) - 1) + counts[-1:]
    for count, ways in zip(counts, move[1]):
        for target, _ in ways:
            found[target] += count
    return found


def world_count(move, many, place):
    """How many worlds there are from the state with a number, of so many states."""
    counts = [1 if at == place else 0 for at in range(many + 1)]
    return sum(counts_behind(move, counts))


class Walk:
    """One run by a given world: where it is, how much of the world is used, and where it was.

    `tickets` has for each draw the least ticket by which it comes out so.
    """

    def __init__(self, world, place, refused):
        self.world = world
        self.used = 0
        self.place = place
        self.refused = refused
        self.places = [place]
        self.tickets = []

    def go(self, move):
        """Does a move, nothing where it is refused already; BadWorld where the world does not tell how."""
        kind = move[0]
        if self.place == self.refused:
            return
        if kind == "seq":
            for part in move[1]:
                self.go(part)
        elif kind == "if":
            self.go(move[2] if move[1][self.place] else move[3])
        else:
            self.act(kind, move[1][self.place])

    def act(self, kind, ways):
        """Does an act, in the way that the world tells for a draw."""
        number = 0
        if kind == "draw":
            number = self.drawn(len(ways))
            self.tickets.append(sum([weight for _, weight in ways[:number]]))
        self.place = ways[number][0]
        if kind in ("set", "draw"):
            self.places.append(self.place)

    def drawn(self, many):
        """The next place of the world, below the number of pairs."""
        if self.used == len(self.world) or self.world[self.used] >= many:
            raise BadWorld("this is no world of the program from the state")
        self.used += 1
        return self.world[self.used - 1]

    def finish(self):
        """BadWorld if something of the world is left."""
        if self.used < len(self.world):
            raise BadWorld("the world tells more than is drawn")
