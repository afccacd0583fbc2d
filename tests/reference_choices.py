"""All ways of choosing tried one after the other, and costs by systems of equations: for the tests alone.

A way is here a dict from (number of the choose, state) to the number of the value.
"""

import itertools
from fractions import Fraction

from tests.reference import Chain, number, solve, states_of, truth


def statements_in(statement):
    """All statements but seqs, in the order of the text."""
    if statement[0] == "seq":
        return [inner for part in statement[1] for inner in statements_in(part)]
    held = statement[2:] if statement[0] in ("if", "while") else ()
    return [statement] + [inner for part in held for inner in statements_in(part)]


def ways_of(program):
    """All ways, ascending."""
    chooses = [statement for statement in statements_in(program[1]) if statement[0] == "choose"]
    keys = [(place, state) for place in range(len(chooses)) for state in states_of(program[0])]
    for numbers in itertools.product(*[range(len(chooses[place][2])) for place, _ in keys]):
        yield dict(zip(keys, numbers))


def as_tuple(way):
    """A way as the package tells it."""
    return tuple((place, state, taken) for (place, state), taken in way.items())


def marked(statement, counter):
    """A statement with the number of each choose at its end."""
    if statement[0] == "choose":
        return (*statement, next(counter))
    if statement[0] == "seq":
        return ("seq", tuple(marked(part, counter) for part in statement[1]))
    if statement[0] in ("if", "while"):
        return (*statement[:2], *[marked(part, counter) for part in statement[2:]])
    return statement


class WayChain(Chain):
    """The chain of a program of which each choose is done as a way tells."""

    def __init__(self, program, way):
        super().__init__(program[0])
        self.way = way
        self.whole = marked(program[1], itertools.count())

    def start(self, state):
        return ((self.whole, ()), state)

    def step(self, rest, state):
        first, more = rest
        if first[0] == "choose":
            expression = first[2][self.way[first[3], state]]
            return [(Fraction(1), (more, self.put(state, first[1], number(expression, self.values(state)))))]
        return super().step(rest, state)


def rows_by(program, way):
    """For each state ahead the dict of weights of ("end", state) and "refused"."""
    chain = WayChain(program, way)
    states = states_of(program[0])
    for state in states:
        chain.explore(chain.start(state))
    ends = solve(chain)
    return {state: ends.get(chain.start(state), {}) for state in states}


def weights_of(program, row, condition):
    """The weight of a row that ends with a condition, that of all ends and the endless one."""
    names = [name for name, _ in program[0]]
    good = sum((weight for key, weight in row.items()
                if key != "refused" and truth(condition, dict(zip(names, key[1])))), Fraction(0))
    ended = sum((weight for key, weight in row.items() if key != "refused"), Fraction(0))
    return good, ended, 1 - ended - row.get("refused", Fraction(0))


def cost_by(program, way, state):
    """The expected number of acts from a state, None if it may go on for ever."""
    chain = WayChain(program, way)
    start = chain.start(state)
    chain.explore(start)
    if sum(solve(chain).get(start, {}).values()) != 1:
        return None
    met = [start]
    for node in met:
        for _, target in chain.steps.get(node, []):
            if target is not None and target[0] != () and target not in met:
                met.append(target)
    lines = {}
    for node in met:
        more = {}
        for weight, target in chain.steps[node]:
            if target is not None and target[0] != ():
                more[target] = more.get(target, 0) + weight
        lines[node] = (Fraction(0 if node[0][0][0] in ("skip", "seq") else 1), more)
    for node in met[:0:-1]:
        price, more = lines.pop(node)
        stay = 1 - more.pop(node, Fraction(0))
        for other, (old, targets) in lines.items():
            weight = targets.pop(node, Fraction(0)) / stay
            for target, share in more.items():
                targets[target] = targets.get(target, 0) + weight * share
            lines[other] = (old + weight * price, targets)
    price, more = lines[start]
    return price / (1 - more.get(start, Fraction(0)))
