"""Rows of a table as lists of integers.

A row has a weight for each state behind, then that of what was refused, then
the endless one. What it means are their shares of their sum, so that multiples
of a row mean the same, and a row of 0 alone stands for nothing at all.
"""

from math import gcd, lcm

from alikechances.exact import lowest


def simplest(row):
    """The least row that means the same."""
    shared = 0
    for weight in row:
        shared = gcd(shared, weight)
        if shared == 1:
            return row
    return row if shared == 0 else [weight // shared for weight in row]


def unit_row(many, at):
    """The row over so many states that has all at one place."""
    return [1 if place == at else 0 for place in range(many + 2)]


def unit_rows(many):
    """The rows over so many states that stay where they are."""
    return [unit_row(many, at) for at in range(many)]


def sum_of_rows(one, one_share, other, other_share):
    """The row that has two rows with shares as one_share to other_share, either perhaps 0."""
    if not one_share:
        return other
    if not other_share:
        return one
    left = one_share * sum(other)
    right = other_share * sum(one)
    shared = gcd(left, right)
    left //= shared
    right //= shared
    return simplest([left * first + right * second for first, second in zip(one, other)])


def row_through(row, rows):
    """The row that a row comes to, if from each state what its row tells is done behind."""
    many = len(rows)
    met = [at for at in range(many) if row[at]]
    whole = 1
    for at in met:
        whole = lcm(whole, sum(rows[at]))
    found = [0] * many + [row[many] * whole, row[many + 1] * whole]
    for at in met:
        factor = row[at] * (whole // sum(rows[at]))
        found = [old + factor * more if more else old for old, more in zip(found, rows[at])]
    return simplest(found)


def joined_rows(rows, others):
    """The rows of doing what the first ones tell and then what the others tell."""
    return [row_through(row, others) for row in rows]


def rows_often(rows, count):
    """The rows of doing what rows tell so many times, by squares."""
    found = unit_rows(len(rows))
    while count:
        if count % 2:
            found = joined_rows(found, rows)
        count //= 2
        rows = joined_rows(rows, rows) if count else rows
    return found


def chosen_rows(truths, rows, others):
    """The rows of an if: the first ones where its condition holds, the others elsewhere."""
    return [row if truth else other for truth, row, other in zip(truths, rows, others)]


def rows_of_rounds(truths, rows, rounds):
    """The rows of a while that goes round at most so many times, what would go on counted as endless."""
    many = len(rows)
    once = chosen_rows(truths, rows, unit_rows(many))
    asked = [unit_row(many, many + 1 if truth else at) for at, truth in enumerate(truths)]
    return joined_rows(rows_often(once, rounds), asked)


def looped_rows(truths, rows):
    """The rows of a while, of the truths of its condition and the rows of its body.

    One state after the other is left out of what may be met on the way: what
    leads back to itself alone goes on for ever, all else is shared out.
    """
    many = len(rows)
    found = chosen_rows(truths, rows, unit_rows(many))
    for at in range(many):
        if truths[at]:
            row = without_return(found[at], at)
            found = [row if place == at else put_in(other, at, row) for place, other in enumerate(found)]
    return found


def without_return(row, at):
    """The row of a state without its way back to itself, endless if there is no other."""
    rest = [0 if place == at else weight for place, weight in enumerate(row)]
    return simplest(rest) if any(rest) else unit_row(len(row) - 2, len(row) - 1)


def put_in(row, at, other):
    """A row in which the weight at a place goes on as another row tells, which has none there."""
    weight = row[at]
    if not weight:
        return row
    rest = [0 if place == at else old for place, old in enumerate(row)]
    return sum_of_rows(rest, sum(rest), other, weight)


def row_of(line):
    """The row that a line (weights, refused, endless) of a table is."""
    weights = (*line[0], line[1], line[2])
    whole = 1
    for _, below in weights:
        whole = lcm(whole, below)
    return simplest([above * (whole // below) for above, below in weights])


def line_of(row):
    """The line of a table that a row is."""
    whole = sum(row)
    weights = [lowest(weight, whole) for weight in row]
    return (tuple(weights[:-2]), weights[-2], weights[-1])


def rows_of(table):
    """The rows that a table is."""
    return [row_of(line) for line in table]


def table_of(rows):
    """The table that rows are."""
    return tuple([line_of(row) for row in rows])
