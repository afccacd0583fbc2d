"""Other ways to the same answers, and programs to try them on: for the tests alone.

The table is found here as that of one chain of (what is left to do, state), solved
as a system of equations; the place at which a text goes wrong by an Earley chart.
"""

import itertools
import random
from fractions import Fraction

NUMBERS = ("add", "less by", "times", "least", "most")


def states_of(variables):
    return list(itertools.product(*[range(size) for _, size in variables]))


def number(expression, values):
    if expression[0] == "num":
        return expression[1]
    if expression[0] == "var":
        return values[expression[1]]
    left, right = [number(part, values) for part in expression[1:]]
    return {"add": left + right, "less by": left - right, "times": left * right,
            "least": min(left, right), "most": max(left, right)}[expression[0]]


def truth(condition, values):
    kind = condition[0]
    if kind == "true":
        return True
    if kind == "not":
        return not truth(condition[1], values)
    if kind in ("and", "or"):
        both = [truth(part, values) for part in condition[1:]]
        return all(both) if kind == "and" else any(both)
    left, right = [number(part, values) for part in condition[1:]]
    return left == right if kind == "is" else left < right


class Chain:
    """The nodes (rest, state) of a program, rest a chain of statements (first, rest) or ()."""

    def __init__(self, variables):
        self.variables = variables
        self.steps = {}

    def values(self, state):
        return {name: value for (name, _), value in zip(self.variables, state)}

    def put(self, state, name, value):
        return tuple(value % size if known == name else old
                     for old, (known, size) in zip(state, self.variables))

    def step(self, rest, state):
        """The list of (weight, node); a node is also None for refused."""
        first, rest = rest
        kind = first[0]
        values = self.values(state)
        if kind == "skip":
            return [(Fraction(1), (rest, state))]
        if kind == "seq":
            for part in reversed(first[1]):
                rest = (part, rest)
            return [(Fraction(1), (rest, state))]
        if kind == "set":
            return [(Fraction(1), (rest, self.put(state, first[1], number(first[2], values))))]
        if kind == "draw":
            whole = sum(weight for _, weight in first[2])
            return [(Fraction(weight, whole), (rest, self.put(state, first[1], number(e, values))))
                    for e, weight in first[2]]
        if kind == "see":
            return [(Fraction(1), (rest, state) if truth(first[1], values) else None)]
        if kind == "if":
            return [(Fraction(1), ((first[2] if truth(first[1], values) else first[3], rest), state))]
        if truth(first[1], values):
            return [(Fraction(1), ((first[2], (first, rest)), state))]
        return [(Fraction(1), (rest, state))]

    def explore(self, node):
        todo = [node]
        while todo:
            node = todo.pop()
            if node is None or node[0] == () or node in self.steps:
                continue
            self.steps[node] = self.step(*node)
            todo.extend(target for _, target in self.steps[node])


def solve(chain):
    """For each node the dict of weights of its ends: states and "refused"."""
    ends = {}
    preds = {}
    for node, steps in chain.steps.items():
        for _, target in steps:
            preds.setdefault(target, []).append(node)
    alive = set()
    todo = [target for target in preds if target is None or target[0] == ()]
    while todo:
        node = todo.pop()
        for before in preds.get(node, []):
            if before not in alive:
                alive.add(before)
                todo.append(before)
    rows = {}
    for node in alive:
        row = {}
        for weight, target in chain.steps[node]:
            key = "refused" if target is None else (("end", target[1]) if target[0] == () else target)
            if key == "refused" or key[0] == "end" or key in alive:
                row[key] = row.get(key, 0) + weight
        rows[node] = row
    order = list(rows)
    for node in order:
        back = rows[node].pop(node, 0)
        rows[node] = {key: weight / (1 - back) for key, weight in rows[node].items()}
        for other in order:
            if other != node and node in rows[other]:
                share = rows[other].pop(node)
                for key, weight in rows[node].items():
                    rows[other][key] = rows[other].get(key, 0) + share * weight
    ends.update(rows)
    return ends


def table(program):
    """The table, as the package tells it."""
    variables, statement = program
    states = states_of(variables)
    chain = Chain(variables)
    for state in states:
        chain.explore(((statement, ()), state))
    ends = solve(chain)
    return tuple(line(states, ends.get(((statement, ()), state), {})) for state in states)


def pair(fraction):
    fraction = Fraction(fraction)
    return (fraction.numerator, fraction.denominator)


def line(states, row):
    weights = [row.get(("end", state), Fraction(0)) for state in states]
    refused = row.get("refused", Fraction(0))
    return (tuple(pair(weight) for weight in weights), pair(refused), pair(1 - refused - sum(weights)))


class Maker:
    """Programs made up by a seed."""

    def __init__(self, seed, kinds=("skip", "set", "draw", "see", "if", "while", "seq"), most=24, sizes=(2, 3, 4)):
        self.random = random.Random(seed)
        self.kinds = kinds
        self.most = most
        self.sizes = sizes

    def variables(self):
        while True:
            many = self.random.randint(1, 3)
            made = tuple((name, self.random.choice(self.sizes)) for name in ("x", "y", "z")[:many])
            if len(states_of(made)) <= self.most:
                return made

    def expression(self, names, deep=3):
        pick = self.random.randint(0, 5 if deep > 1 else 2)
        if pick == 0:
            return ("num", self.random.randint(0, 4))
        if pick < 3:
            return ("var", self.random.choice(names))
        return (self.random.choice(NUMBERS), self.expression(names, deep - 1), self.expression(names, deep - 1))

    def condition(self, names, deep=3):
        pick = self.random.randint(0, 8 if deep > 1 else 0)
        if pick == 0 and self.random.random() < 0.3:
            return ("true",)
        if pick < 5:
            return (self.random.choice(("is", "below")), self.expression(names, 2), self.expression(names, 2))
        if pick == 5:
            return ("not", self.condition(names, deep - 1))
        return (self.random.choice(("and", "or")), self.condition(names, deep - 1), self.condition(names, deep - 1))

    def statement(self, names, deep=4):
        kind = self.random.choice(self.kinds)
        if kind in ("if", "while", "seq") and deep == 1:
            kind = "draw"
        if kind == "skip":
            return ("skip",)
        if kind == "set":
            return ("set", self.random.choice(names), self.expression(names))
        if kind == "draw":
            pairs = [(self.expression(names, 2), self.random.randint(1, 4))
                     for _ in range(self.random.randint(1, 3))]
            return ("draw", self.random.choice(names), tuple(pairs))
        if kind == "choose":
            values = [self.expression(names, 2) for _ in range(self.random.randint(1, 3))]
            return ("choose", self.random.choice(names), tuple(values))
        if kind == "see":
            return ("see", self.condition(names))
        if kind == "while":
            return ("while", self.condition(names), self.statement(names, deep - 1))
        if kind == "if":
            return ("if", self.condition(names), self.statement(names, deep - 1), self.statement(names, deep - 1))
        return self.seq(names, deep)

    def seq(self, names, deep):
        parts = []
        for _ in range(self.random.randint(2, 4)):
            part = self.statement(names, deep - 1)
            parts.extend(part[1] if part[0] == "seq" else [part])
        return ("seq", tuple(parts))

    def program(self, deep=4):
        variables = self.variables()
        names = [name for name, _ in variables]
        return (variables, self.seq(names, deep))


GRAMMAR = {
    "P": ["vars V ; B"],
    "V": ["name number", "name number , V"],
    "B": ["S", "S ; B"],
    "S": ["skip", "name := E", "draw name from D", "choose name from L", "see C",
          "if C then ( B ) else ( B )", "while C do ( B )"],
    "D": ["E weight number", "E weight number , D"],
    "L": ["E", "E , L"],
    "E": ["number", "name", "( E + E )", "( E - E )", "( E * E )", "least ( E , E )", "most ( E , E )"],
    "C": ["true", "not C", "( E is E )", "( E below E )", "( C and C )", "( C or C )"],
}
RULES = {head: [tuple(body.split()) for body in bodies] for head, bodies in GRAMMAR.items()}


def first_wrong(kinds):
    """How many of the kinds of words can stand by the form; None if all can and the text is whole."""
    charts = [{("P", body, 0, 0) for body in RULES["P"]}]
    for at in range(len(kinds) + 1):
        whole = grow(charts, at)
        if at == len(kinds):
            return None if whole else at
        moved = {(head, body, dot + 1, start) for head, body, dot, start in charts[at]
                 if dot < len(body) and body[dot] == kinds[at]}
        if not moved:
            return at
        charts.append(moved)
    return None


def grow(charts, at):
    """Completes a chart; returns whether a whole text ends there."""
    todo = list(charts[at])
    whole = False
    while todo:
        head, body, dot, start = todo.pop()
        found = []
        if dot == len(body):
            whole = whole or (head == "P" and start == 0)
            found = [(h, b, d + 1, s) for h, b, d, s in charts[start] if d < len(b) and b[d] == head]
        elif body[dot] in RULES:
            found = [(body[dot], new, 0, at) for new in RULES[body[dot]]]
        for item in found:
            if item not in charts[at]:
                charts[at].add(item)
                todo.append(item)
    return whole
