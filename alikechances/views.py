"""What is seen of states by some of their variables alone."""

from alikechances.reckoning import all_states


class View:
    """Some variables of others, in an order of their own.

    `seen` has all tuples of their values, ascending, `numbers` for each state of
    the others the number of its tuple among them.
    """

    def __init__(self, variables, names):
        sizes = {name: size for name, size in variables}
        places = {name: place for place, (name, _) in enumerate(variables)}
        self.seen = all_states([(name, sizes[name]) for name in names])
        by_values = {values: number for number, values in enumerate(self.seen)}
        self.numbers = [
            by_values[tuple([state[places[name]] for name in names])] for state in all_states(variables)
        ]

    def row(self, row):
        """A row with the weights behind added up over all other variables."""
        found = [0] * len(self.seen)
        for number, weight in zip(self.numbers, row):
            found[number] += weight
        return found + row[-2:]
