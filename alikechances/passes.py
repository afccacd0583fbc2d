"""Programs made better without a change of what they do, each with the paper that shows it."""

from math import gcd

from alikechances.checks import need_program
from alikechances.drafts import Draft
from alikechances.paths import paths_in
from alikechances.rules import are_dead, flat_form
from alikechances.seeing import see_early
from alikechances.trees import MOST_WEIGHT, parts_of

TRUE = ("true",)
NOT_TRUE = ("not", ("true",))
SKIP = ("skip",)


def worked(program, work):
    """What comes of a program by work on a draft of it: the program then, and its paper."""
    need_program(program)
    draft = Draft(program)
    work(draft)
    return draft.result()


def tidied(program):
    """The program without skips and needless seqs, with its paper."""
    return worked(program, tidy)


def tidy(draft):
    """Makes the statement of a draft as short as "flat" can."""
    draft.put((), "flat", flat_form(draft.statement))


def folded(program):
    """The program with each expression and condition told shortly that is one in all states, with its paper."""
    return worked(program, fold)


def fold(draft):
    """Folds each statement of a draft; a set that changes nothing is skip."""
    for path in paths_in(draft.statement):
        after = folded_one(draft.space, draft.at(path))
        draft.put(path, "fold", after)
        if after[0] == "set" and after[2] == ("var", after[1]):
            draft.put(path, "same", SKIP)


def folded_one(space, statement):
    """A statement with its own expressions or condition folded."""
    kind = statement[0]
    if kind == "set":
        return (kind, statement[1], folded_set(space, statement[1], statement[2]))
    if kind == "draw":
        pairs = [(folded_number(space, statement[1], expression), weight) for expression, weight in statement[2]]
        return (kind, statement[1], tuple(pairs))
    if kind in ("see", "if", "while"):
        return (kind, folded_truth(space, statement[1]), *statement[2:])
    return statement


def folded_set(space, name, expression):
    """The expression of a set folded: the variable itself where it is left as it is."""
    if space.targets(name, expression) == list(range(len(space.states))):
        return ("var", name)
    return folded_number(space, name, expression)


def folded_number(space, name, expression):
    """The number that an expression is by the size of a variable, the expression itself if it is not one alone."""
    values = space.values_by_size(name, expression)
    return ("num", values[0]) if min(values) == max(values) else expression


def folded_truth(space, condition):
    """Or true, or not true, where a condition holds in all states or in none, else the condition itself."""
    truths = space.truths(condition)
    if all(truths):
        return TRUE
    return condition if any(truths) else NOT_TRUE


def undrawn(program):
    """The program with draws of numbers put together, and draws of one pair as sets, with its paper."""
    return worked(program, undraw)


def undraw(draft):
    """Puts each draw of a draft together."""
    for path in paths_in(draft.statement):
        act = draft.at(path)
        if act[0] == "draw":
            draft.put(path, "draw", undrawn_one(draft.space, act))


def undrawn_one(space, act):
    """A draw put together."""
    _, name, pairs = act
    if all([expression[0] == "num" for expression, _ in pairs]):
        pairs = pairs_together(space, name, pairs)
    return ("set", name, pairs[0][0]) if len(pairs) == 1 else ("draw", name, pairs)


def pairs_together(space, name, pairs):
    """The pairs of a draw of numbers with equal values put together, as they were if a weight is too great then."""
    weights = {}
    for expression, weight in pairs:
        value = space.values_by_size(name, expression)[0]
        weights[value] = weights.get(value, 0) + weight
    shared = 0
    for weight in weights.values():
        shared = gcd(shared, weight)
    if max(weights.values()) // shared > MOST_WEIGHT:
        return pairs
    return tuple([(("num", value), weights[value] // shared) for value in sorted(weights)])


def cleared(program):
    """The program without changes that are done away with at once, with its paper."""
    return worked(program, clear_dead)


def clear_dead(draft):
    """Leaves out what is done away with by its neighbour, until there is no more."""
    found = dead_places(draft)
    while found:
        path, at = found[0]
        behind = draft.at(path)[1][at + 1]
        draft.put(draft.pair(path, at), "dead", behind)
        found = dead_places(draft)


def dead_places(draft):
    """The list of (path to a seq, number of its entry) of what is done away with by its neighbour."""
    found = []
    for path in paths_in(draft.statement):
        met = draft.at(path)
        if met[0] == "seq":
            found.extend([
                (path, at) for at, (first, second) in enumerate(zip(met[1], met[1][1:])) if are_dead(first, second)
            ])
    return found


def decided(program):
    """The program without ifs, whiles and sees of which it stands what they do, with its paper."""
    return worked(program, decide)


def decide(draft):
    """Decides all that stands in a draft, inner ones first."""
    decide_in(draft, ())


def decide_in(draft, path):
    """Decides all that stands in a statement, then it itself."""
    for at in range(len(parts_of(draft.at(path)))):
        decide_in(draft, (*path, at))
    statement = draft.at(path)
    if statement[0] == "seq":
        draft.lay(path)
    else:
        rule, after = decided_one(draft.space, statement)
        draft.put(path, rule, after)


def decided_one(space, statement):
    """The rule by which a statement is decided, and what comes in its place, perhaps it itself."""
    kind = statement[0]
    if kind == "if" and statement[2] == statement[3]:
        return ("same", statement[2])
    if kind in ("see", "if", "while"):
        truths = space.truths(statement[1])
        if kind == "if" and (all(truths) or not any(truths)):
            return (kind, statement[2] if all(truths) else statement[3])
        if (kind == "see" and all(truths)) or (kind == "while" and not any(truths)):
            return (kind, SKIP)
    return (kind, statement)


def bettered(program):
    """The program made better by all five, again and again until nothing changes, with its paper."""
    return worked(program, better)


def better(draft):
    """Makes a draft better by all five until nothing changes."""
    before = None
    while before != draft.statement:
        before = draft.statement
        tidy(draft)
        fold(draft)
        undraw(draft)
        clear_dead(draft)
        decide(draft)


def seen_early(program):
    """The program with each see as early in its seq as it can be, with its paper."""
    return worked(program, see_early)
