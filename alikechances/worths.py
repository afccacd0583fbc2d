"""What it is worth to stand at each place of a program, by what it is worth to come to each end.

Worths go as rows do: a list with a fraction for each state, then that of being
refused, then that of never ending; None stands for what is without end, as all
that may never end is where each act and asked condition has a price.
"""

from alikechances.chains import ways_of_all
from alikechances.exact import NOTHING, lowest, over, plus
from alikechances.flows import rows_of_body
from alikechances.rows import looped_rows


def mean_worth(weights, worths):
    """The mean of worths by weights, None if one of them with a weight is."""
    found = NOTHING
    for weight, worth in zip(weights, worths):
        if weight:
            if worth is None:
                return None
            found = plus(found, (weight * worth[0], worth[1]))
    return over(found, (sum(weights), 1))


def sum_of_worths(one, other):
    """The sum of two worths."""
    return None if one is None or other is None else plus(one, other)


def act_worths(move, after):
    """For each state the mean of what an act comes to."""
    return [
        mean_worth([weight for _, weight in ways], [after[target] for target, _ in ways])
        for ways in move[1]
    ]


class Reckoner:
    """Carries worths back through moves, with a price, 0 or 1, for each act and asked condition."""

    def __init__(self, price):
        self.price = price

    def solved(self, move):
        """A move with each while in it worked out."""
        kind = move[0]
        if kind == "seq":
            return ("seq", [self.solved(part) for part in move[1]])
        if kind == "if":
            return ("if", move[1], self.solved(move[2]), self.solved(move[3]))
        if kind != "while":
            return move
        truths = move[1]
        body = self.solved(move[2])
        once = rows_of_body(truths, body, None)
        rows = looped_rows(truths, once)
        return ("loop", truths, body, rows, self.loop_prices(truths, body, once, rows))

    def loop_prices(self, truths, body, once, rows):
        """For each state what all acts and asked conditions of a while make up, None where it may go on for ever."""
        if not self.price:
            return [NOTHING] * len(truths)
        inner, _ = self.ahead(body, [NOTHING] * (len(truths) + 2))
        ways = {}
        for at, row in enumerate(rows):
            if row[-1] == 0 and truths[at]:
                above, below = self.priced(inner[at])
                weights = {target: weight * below for target, weight in enumerate(once[at]) if weight}
                ways[at] = (weights, sum(once[at]) * above)
        ways = ways_of_all(ways)
        return [self.loop_price(truths, at, rows[at], ways) for at in range(len(truths))]

    def loop_price(self, truths, at, row, ways):
        """As loop_prices, from one state; where the loop is left its condition was asked once more."""
        if row[-1]:
            return None
        if not truths[at]:
            return (1, 1)
        weights, prices = ways[at]
        left = sum([weight for target, weight in weights.items() if target < len(truths)])
        return lowest(prices + left, sum(weights.values()))

    def priced(self, worth):
        """A worth with the price of one act."""
        return None if worth is None else plus(worth, (self.price, 1))

    def ahead(self, move, after):
        """The worths ahead of a solved move, and the list of those at each of its places, in the order of the text."""
        kind = move[0]
        if kind == "seq":
            found = []
            for part in move[1][::-1]:
                after, listed = self.ahead(part, after)
                found = listed + found
            return (after, found)
        if kind == "if":
            one, first = self.ahead(move[2], after)
            other, second = self.ahead(move[3], after)
            worths = [self.priced(one[at] if truth else other[at]) for at, truth in enumerate(move[1])] + after[-2:]
            return (worths, [worths] + first + second)
        if kind == "loop":
            behind = [mean_worth(row, after) for row in move[3]]
            worths = [sum_of_worths(price, worth) for price, worth in zip(move[4], behind)] + after[-2:]
            return (worths, [worths] + self.ahead(move[2], worths)[1])
        worths = act_worths(move, after)
        if kind != "skip":
            worths = [self.priced(worth) for worth in worths]
        worths = worths + after[-2:]
        return (worths, [worths])
