"""Sees brought ahead of what stands ahead of them in their seqs."""

from alikechances.trees import DEEPEST_EXPRESSION, is_condition, parts_of, read_names

NEVER = ("not", ("true",))


def see_early(draft):
    """Brings each see in a draft as early as it can be."""
    see_early_in(draft, ())


def see_early_in(draft, path):
    """Brings each see in a statement as early as it can be, in the seq itself first, then in inner ones."""
    while step_early(draft, path):
        pass
    for at in range(len(parts_of(draft.at(path)))):
        see_early_in(draft, (*path, at))


def step_early(draft, path):
    """Puts the first two sees side by side together, else brings the first see that can go ahead one act ahead.

    Returns whether there was anything to do.
    """
    statement = draft.at(path)
    if statement[0] != "seq":
        return False
    parts = statement[1]
    later = [at for at in range(1, len(parts)) if parts[at][0] == "see"]
    for at in later:
        if parts[at - 1][0] == "see":
            put_together(draft, path, at - 1)
            return True
    for at in later:
        if can_pass(parts[at - 1], parts[at][1]):
            bring_ahead(draft, path, at - 1)
            return True
    return False


def can_pass(act, condition):
    """Whether a see with a condition can go ahead of an act that stands ahead of it."""
    return act[0] in ("skip", "set") or (act[0] == "draw" and act[1] not in read_names(condition))


def fits(condition):
    """Whether a condition is not too deep."""
    return is_condition(condition, DEEPEST_EXPRESSION)


def put_together(draft, path, at):
    """Makes one see of the one at a place of a seq and the next one."""
    conditions = [see[1] for see in draft.at(path)[1][at:at + 2]]
    both = ("and", conditions[0], conditions[1])
    if fits(both):
        draft.put(draft.pair(path, at), "see", ("see", both))
        return
    # Told by states a condition is never so deep that one more level is too much.
    truths = [draft.space.truths(condition) for condition in conditions]
    told = [told_by_states(draft.space, each) for each in truths]
    pair = draft.pair(path, at)
    draft.put((*pair, 0), "fold", ("see", told[0]))
    draft.put((*pair, 1), "fold", ("see", told[1]))
    draft.put(pair, "see", ("see", ("and", told[0], told[1])))
    together = [first and second for first, second in zip(truths[0], truths[1])]
    draft.put(pair, "fold", ("see", told_by_states(draft.space, together)))


def bring_ahead(draft, path, at):
    """Brings a see ahead of the act at a place of a seq, behind which it stands."""
    parts = draft.at(path)[1]
    act, see = parts[at:at + 2]
    if act[0] == "skip":
        draft.put(path, "flat", ("seq", (*parts[:at], see, act, *parts[at + 2:])))
        return
    before = ("see", asked_before(draft.space, act, see[1]))
    draft.put(draft.pair(path, at), "see", ("seq", (before, act)))
    draft.lay(path)


def asked_before(space, act, condition):
    """The condition that is as well asked before a set, or a draw that it can pass, as another one behind it."""
    _, name, expression = act
    if name not in read_names(condition):
        return condition
    _, size = space.sized[name]
    if all([0 <= number < size for number in space.worths(expression)]):
        found = with_expression(condition, name, expression)
        if fits(found):
            return found
    truths = space.truths(condition)
    return told_by_states(space, [truths[target] for target in space.targets(name, expression)])


def with_expression(form, name, expression):
    """An expression or a condition with an expression in the place of a variable."""
    if form == ("var", name):
        return expression
    parts = [with_expression(part, name, expression) if isinstance(part, tuple) else part for part in form[1:]]
    return (form[0], *parts)


def told_by_states(space, truths):
    """The condition that holds in the states with a truth, told by these."""
    names = list(space.sized)
    return halved("or", [
        halved("and", [("is", ("var", name), ("num", value)) for name, value in zip(names, state)])
        for state, truth in zip(space.states, truths) if truth
    ])


def halved(word, conditions):
    """The and or the or of a list of conditions: of that of its first half, the greater one, and that of the rest."""
    if not conditions:
        return NEVER
    if len(conditions) == 1:
        return conditions[0]
    half = (len(conditions) + 1) // 2
    return (word, halved(word, conditions[:half]), halved(word, conditions[half:]))
