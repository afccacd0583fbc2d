"""Rows of two programs compared by what they let by: all their weights but the refused one."""

from alikechances.exact import lowest, over, plus
from alikechances.rows import simplest


def let_by_in(row):
    """What a row lets by: the weights behind, then the endless one."""
    return row[:-2] + row[-1:]


def lets_by(row):
    """Whether a row lets anything by."""
    return any(let_by_in(row))


def fraction_let_by(row):
    """The fraction of a row that is not refused."""
    return lowest(sum(let_by_in(row)), sum(row))


def direction(row):
    """The least integers in the shares of what a row lets by; equal ones where rows are multiples."""
    return tuple(simplest(let_by_in(row)))


def chances_in(row):
    """For each place behind, and for never ending, the chance over what is let by, None if nothing is."""
    weights = let_by_in(row)
    whole = sum(weights)
    return [lowest(weight, whole) if whole else None for weight in weights]


def multiple_of_rows(rows, others):
    """The fraction above 0 by which all rows are the others' multiples, but for what is refused.

    (1, 1) where neither lets anything by, None where there is no such fraction.
    """
    if [direction(row) for row in rows] != [direction(row) for row in others]:
        return None
    found = None
    for row, other in zip(rows, others):
        if lets_by(row):
            quotient = over(fraction_let_by(row), fraction_let_by(other))
            if found not in (None, quotient):
                return None
            found = quotient
    return found or (1, 1)


def are_multiples_of_one(rows, others):
    """Whether all rows that let something by are multiples of one, the same ones in both."""
    if [lets_by(row) for row in rows] != [lets_by(row) for row in others]:
        return False
    return len(set([direction(row) for row in rows + others if lets_by(row)])) <= 1


def chance_of_first(row, other):
    """Of two rows begun with like shares, the chance that it was the first, None if nothing is let by."""
    first = fraction_let_by(row)
    both = plus(first, fraction_let_by(other))
    return over(first, both) if both[0] else None


def parting_from_one(states, behind, rows, others):
    """What parts rows from one state alone, behind telling the places behind; None if nothing does."""
    questions = [("is", place) for place in behind] + [("never",)]
    for state, row, other in zip(states, rows, others):
        for question, chance, other_chance in zip(questions, chances_in(row), chances_in(other)):
            if chance != other_chance:
                return ((state,), question, chance, other_chance)
    return None


def parting_of_two(states, rows, others):
    """What parts rows from two states, by which of the two it was; None if nothing does."""
    many = len(states)
    for at in range(many):
        for later in range(at + 1, many):
            chance = chance_of_first(rows[at], rows[later])
            other_chance = chance_of_first(others[at], others[later])
            if chance != other_chance:
                return ((states[at], states[later]), ("was", states[at]), chance, other_chance)
    return None


def parting_of_rows(states, behind, rows, others):
    """The first of what parts rows, None if they are alike."""
    return parting_from_one(states, behind, rows, others) or parting_of_two(states, rows, others)
