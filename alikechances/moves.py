"""Statements worked out for all states beforehand.

States go by their numbers, ascending. A move is (kind, ways, whole) for an act,
ways telling for each state a tuple of (number of the state behind, weight), the
weights adding up to whole, and the number of the states standing for being
refused; or ("seq", moves), ("if", truths, move, move), ("while", truths, move).
The ways of a choose have the weight 1 each: one of them is taken, none is drawn.
"""

from alikechances.reckoning import all_states, named_values, number_of, truth_of


class Space:
    """The states of variables, and what statements do with them."""

    def __init__(self, variables):
        self.sized = {name: (place, size) for place, (name, size) in enumerate(variables)}
        self.states = all_states(variables)
        self.numbers = {state: number for number, state in enumerate(self.states)}
        self.named = [named_values(variables, state) for state in self.states]

    def truths(self, condition):
        """For each state whether a condition holds."""
        return [truth_of(condition, values) for values in self.named]

    def worths(self, expression):
        """For each state the number that an expression comes to."""
        return [number_of(expression, values) for values in self.named]

    def values_by_size(self, name, expression):
        """For each state the value that a variable takes by an expression."""
        _, size = self.sized[name]
        return [number % size for number in self.worths(expression)]

    def targets(self, name, expression):
        """For each state the number of the one behind, once a variable is set."""
        place, _ = self.sized[name]
        behind = [
            (*state[:place], value, *state[place + 1:])
            for state, value in zip(self.states, self.values_by_size(name, expression))
        ]
        return [self.numbers[state] for state in behind]

    def draw_ways(self, name, pairs):
        """For each state the ways of a draw, in the order of its pairs."""
        columns = [(self.targets(name, expression), weight) for expression, weight in pairs]
        return [tuple([(column[at], weight) for column, weight in columns]) for at in range(len(self.states))]

    def see_ways(self, condition):
        """For each state the way of a see: to stay there, or to be refused."""
        refused = len(self.states)
        return [((at if truth else refused, 1),) for at, truth in enumerate(self.truths(condition))]

    def move(self, statement):
        """The move of a statement."""
        kind = statement[0]
        if kind == "seq":
            return ("seq", [self.move(part) for part in statement[1]])
        if kind == "if":
            return ("if", self.truths(statement[1]), self.move(statement[2]), self.move(statement[3]))
        if kind == "while":
            return ("while", self.truths(statement[1]), self.move(statement[2]))
        if kind == "see":
            return ("see", self.see_ways(statement[1]), 1)
        if kind == "set":
            return ("set", [((at, 1),) for at in self.targets(statement[1], statement[2])], 1)
        if kind == "draw":
            whole = sum([weight for _, weight in statement[2]])
            return ("draw", self.draw_ways(statement[1], statement[2]), whole)
        if kind == "choose":
            return ("choose", self.draw_ways(statement[1], [(value, 1) for value in statement[2]]), 1)
        return ("skip", [((at, 1),) for at in range(len(self.states))], 1)
