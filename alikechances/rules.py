"""The rules by which a statement comes in the place of another one that does the same.

Each of them judges one direction, of a statement and what comes in its place;
seqs may be of none or one statement, or hold seqs.
"""

from alikechances.flows import act_rows
from alikechances.trees import changed_names, forms_in, read_names, statement_names, statements_in


def flat_form(statement):
    """A statement with seqs within seqs laid into them, without skips in seqs, and without seqs of none or one."""
    kind = statement[0]
    if kind in ("if", "while"):
        held = [flat_form(part) for part in statement[2:]]
        return (kind, statement[1], *held)
    if kind != "seq":
        return statement
    parts = []
    for part in statement[1]:
        flat = flat_form(part)
        if flat[0] == "seq":
            parts.extend(flat[1])
        elif flat[0] != "skip":
            parts.append(flat)
    if len(parts) > 1:
        return ("seq", tuple(parts))
    return parts[0] if parts else ("skip",)


def is_two(statement):
    """Whether a statement is a seq of just two entries."""
    return statement[0] == "seq" and len(statement[1]) == 2


def is_flat(space, one, other):
    """Both have the same flat form."""
    return flat_form(one) == flat_form(other)


def drawn_columns(space, act):
    """For each pair of a draw its targets and its weight; a set is a draw of one pair."""
    pairs = act[2] if act[0] == "draw" else ((act[2], 1),)
    return [(space.targets(act[1], expression), weight) for expression, weight in pairs]


def is_folded(space, one, other):
    """Both are alike but for expressions, or the condition, that come to the same in all states."""
    kind = one[0]
    if kind != other[0]:
        return False
    if kind in ("see", "if", "while"):
        return one[2:] == other[2:] and space.truths(one[1]) == space.truths(other[1])
    if kind not in ("set", "draw") or one[1] != other[1]:
        return False
    return drawn_columns(space, one) == drawn_columns(space, other)


def is_redrawn(space, one, other):
    """Both are draws of one variable, or sets, that give each value the same share."""
    if one[0] not in ("set", "draw") or other[0] not in ("set", "draw") or one[1] != other[1]:
        return False
    return act_rows(space, one) == act_rows(space, other)


def are_dead(first, second):
    """Whether what the first one does is done away with by the second one, whatever it was."""
    if first[0] not in ("set", "draw", "choose") or second[0] not in ("set", "draw") or first[1] != second[1]:
        return False
    return second[1] not in [name for form in forms_in(second) for name in read_names(form)]


def is_without_dead(space, one, other):
    """A change that is done away with at once is left out."""
    return is_two(one) and one[1][1] == other and are_dead(one[1][0], other)


def has_any(statement, kinds):
    """Whether a statement is or holds one of such kinds."""
    return any([inner[0] in kinds for inner in statements_in(statement)])


def touches(statement, other):
    """Whether a statement changes a variable that the other one names."""
    named = statement_names(other)
    return any([name in named for name in changed_names(statement)])


def is_swapped(space, one, other):
    """Two that do not hang on one another, the other way round."""
    if not is_two(one):
        return False
    first, second = one[1]
    if other != ("seq", (second, first)) or touches(first, second) or touches(second, first):
        return False
    if has_any(one, ("choose",)):
        return False
    return not (has_any(first, ("see", "while")) and has_any(second, ("see", "while")))


def is_same(space, one, other):
    """An if with equal branches for one of them, a set of a variable by itself for skip."""
    if one[0] == "if":
        return one[2] == one[3] and one[2] == other
    return one[0] == "set" and one[2] == ("var", one[1]) and other == ("skip",)


def is_decided(space, one, other):
    """An if for the branch that is always taken, also behind a see."""
    if is_two(one) and is_two(other) and one[1][0] == other[1][0] and one[1][0][0] == "see":
        return is_taken(space, space.truths(one[1][0][1]), one[1][1], other[1][1])
    return is_taken(space, space.truths(("true",)), one, other)


def is_taken(space, met, choice, branch):
    """Whether a statement is an if of which this branch is taken in all states that are met."""
    if choice[0] != "if":
        return False
    truths = [truth for truth, here in zip(space.truths(choice[1]), met) if here]
    return (branch == choice[2] and all(truths)) or (branch == choice[3] and not any(truths))


def is_seen(space, one, other):
    """A see of all states left out, two sees in one, a see ahead of a set or a draw."""
    if one[0] == "see":
        return other == ("skip",) and all(space.truths(one[1]))
    if not is_two(one) or one[1][1][0] != "see":
        return False
    act, (_, condition) = one[1]
    if act[0] == "see":
        return other == ("see", ("and", act[1], condition))
    if not is_two(other) or other[1][0][0] != "see" or other[1][1] != act:
        return False
    return is_seen_ahead(space, act, condition, other[1][0][1])


def is_seen_ahead(space, act, condition, before):
    """Whether a condition asked behind a set or draw is as well another one asked before it."""
    if act[0] == "draw":
        return before == condition and act[1] not in read_names(condition)
    if act[0] != "set":
        return False
    truths = space.truths(condition)
    return space.truths(before) == [truths[target] for target in space.targets(act[1], act[2])]


def is_gone_round(space, one, other):
    """A while gone round once, or left out; a see left out behind one, one left out behind a see."""
    if one[0] == "while":
        again = ("if", one[1], ("seq", (one[2], one)), ("skip",))
        return other == again or (other == ("skip",) and not any(space.truths(one[1])))
    if not is_two(one) or one[1][0] != other:
        return False
    first, second = one[1]
    if (first[0], second[0]) not in (("see", "while"), ("while", "see")):
        return False
    both = list(zip(space.truths(first[1]), space.truths(second[1])))
    if first[0] == "see":
        return not any([seen and asked for seen, asked in both])
    return all([asked or seen for asked, seen in both])


def is_branched(space, one, other):
    """What stands behind an if, put at the end of both branches."""
    if not is_two(one) or one[1][0][0] != "if":
        return False
    (_, condition, held, rest), behind = one[1]
    return other == ("if", condition, ("seq", (held, behind)), ("seq", (rest, behind)))


RULES = {
    "flat": is_flat, "fold": is_folded, "draw": is_redrawn, "dead": is_without_dead, "swap": is_swapped,
    "same": is_same, "if": is_decided, "see": is_seen, "while": is_gone_round, "branch": is_branched,
}


def is_rule(thing):
    """Whether any object is the name of a rule."""
    return isinstance(thing, str) and thing in RULES


def is_by_rule(space, rule, one, other):
    """Whether one of two statements may come in the place of the other one by a rule, in either direction."""
    judge = RULES[rule]
    return judge(space, one, other) or judge(space, other, one)
