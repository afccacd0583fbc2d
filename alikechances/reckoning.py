"""What expressions and conditions come to, and the states of variables."""


def all_states(variables):
    """The list of all states, ascending."""
    states = [()]
    for _, size in variables:
        states = [(*state, value) for state in states for value in range(size)]
    return states


def named_values(variables, state):
    """A dict from the names of the variables to their values in a state."""
    return {name: value for (name, _), value in zip(variables, state)}


def number_of(expression, values):
    """The number that an expression comes to, with values by names."""
    kind = expression[0]
    if kind == "num":
        return expression[1]
    if kind == "var":
        return values[expression[1]]
    left = number_of(expression[1], values)
    right = number_of(expression[2], values)
    if kind == "add":
        return left + right
    if kind == "less by":
        return left - right
    if kind == "times":
        return left * right
    return min(left, right) if kind == "least" else max(left, right)


def truth_of(condition, values):
    """Whether a condition holds, with values by names."""
    kind = condition[0]
    if kind == "true":
        return True
    if kind == "not":
        return not truth_of(condition[1], values)
    if kind == "and":
        return truth_of(condition[1], values) and truth_of(condition[2], values)
    if kind == "or":
        return truth_of(condition[1], values) or truth_of(condition[2], values)
    left = number_of(condition[1], values)
    right = number_of(condition[2], values)
    return left == right if kind == "is" else left < right
