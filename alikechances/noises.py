"""What news tables are worth, told on by noises, and what shows which of two tells more."""

from math import lcm

from alikechances.balances import balanced
from alikechances.exact import NOTHING, greatest_of, times, total


def multiplied(news, noise):
    """What is told at the end if what a news table tells is told on by a noise."""
    return tuple([
        tuple([total([times(weight, told[at]) for weight, told in zip(row, noise)]) for at in range(len(noise[0]))])
        for row in news
    ])


def mean_won(news, leaning, game):
    """The greatest mean of a game for one who is told what a news table tells."""
    won = []
    for at in range(len(news[0])):
        weights = [times(share, row[at]) for share, row in zip(leaning, news)]
        won.append(greatest_of([
            total([times(weight, worth) for weight, worth in zip(weights, action)]) for action in game
        ]))
    return total(won)


def row_factor(row, other):
    """The least number by which all fractions of two rows are integers."""
    found = 1
    for _, below in row + other:
        found = lcm(found, below)
    return found


def balanced_noise(news, other):
    """As balanced, of the weights of a noise, row by row, by which the one news table is told on as the other one.

    The last column hangs on the others, as all rows are together 1.
    """
    last = len(other[0]) - 1
    unknowns = len(news[0]) * (last + 1)
    lines = []
    wanted = []
    for row, other_row in zip(news, other):
        factor = row_factor(row, other_row)
        for at in range(last):
            line = [0] * unknowns
            for column, (above, below) in enumerate(row):
                line[column * (last + 1) + at] = above * (factor // below)
            lines.append(line)
            wanted.append(other_row[at][0] * (factor // other_row[at][1]))
    for column in range(len(news[0])):
        lines.append([1 if at // (last + 1) == column else 0 for at in range(unknowns)])
        wanted.append(1)
    return balanced(lines, wanted)


def noise_between(news, other):
    """A noise by which the first news table is told on as the other one, None if there is none."""
    weights, _ = balanced_noise(news, other)
    if weights is None:
        return None
    many = len(other[0])
    return tuple([tuple(weights[at * many:(at + 1) * many]) for at in range(len(news[0]))])


def game_between(news, other):
    """A tuple (leaning, game) for which the other news table is worth more, None if there is none.

    What shows that there is no noise is such a game: an action for each column of the other one, told by it what
    to do. The multiples are those of rows brought to integers.
    """
    _, multiples = balanced_noise(news, other)
    if multiples is None:
        return None
    last = len(other[0]) - 1
    factors = [(row_factor(row, other_row), 1) for row, other_row in zip(news, other)]
    game = [
        tuple([times(multiples[at * last + column], factor) for at, factor in enumerate(factors)])
        for column in range(last)
    ]
    game.append((NOTHING,) * len(news))
    return (((1, len(news)),) * len(news), tuple(game))
