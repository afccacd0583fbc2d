"""How far it is from each state of a loop to a way out of it."""


def least_ranks(outs, rows):
    """For each state 0 where there is a way out, else 1 more than the least that its row comes to.

    None stands where no way out is ever come to.
    """
    many = len(outs)
    found = [0 if out else None for out in outs]
    for rank in range(many):
        for at in range(many):
            if found[at] is None and comes_to(rows[at], found, rank):
                found[at] = rank + 1
    return found


def comes_to(row, ranks, rank):
    """Whether a row has a weight at a state with a rank."""
    return any([weight > 0 and reached == rank for weight, reached in zip(row, ranks)])
