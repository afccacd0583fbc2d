"""Programs on the way to better ones, with the paper of what was done to them."""

from alikechances.building import in_order
from alikechances.moves import Space
from alikechances.paths import exchanged, on_the_way


class Draft:
    """The statement of a program as it is now, and the steps that led to it."""

    def __init__(self, program):
        self.variables, self.statement = program
        self.space = Space(program[0])
        self.steps = []

    def at(self, path):
        """The statement that a path leads to."""
        return on_the_way(self.statement, path)[-1]

    def put(self, path, rule, after):
        """Puts a statement in the place of the one that a path leads to, by a rule; no step where it is that one."""
        met = on_the_way(self.statement, path)
        if met[-1] != after:
            self.steps.append((path, rule, met[-1], after))
            self.statement = exchanged(met, path, after)

    def pair(self, path, at):
        """Puts the entry of a seq with a number and the next one into a seq of their own; returns the path to it."""
        parts = self.at(path)[1]
        if len(parts) == 2:
            return path
        self.put(path, "flat", ("seq", (*parts[:at], ("seq", parts[at:at + 2]), *parts[at + 2:])))
        return (*path, at)

    def lay(self, path):
        """Lays the seqs in a seq into it."""
        parts = [inner for part in self.at(path)[1] for inner in in_order(part)]
        self.put(path, "flat", ("seq", tuple(parts)))

    def result(self):
        """The tuple of the program as it is now, and the paper."""
        return ((self.variables, self.statement), self.steps)
