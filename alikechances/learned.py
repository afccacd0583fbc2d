"""What one who is told some variables behind learns of the state ahead, and what that is worth."""

from alikechances.ahead import need_shares_of
from alikechances.checks import need_game, need_names, need_program, need_shares
from alikechances.exact import NOTHING, greatest_of, is_at_most, over, plus, times, total
from alikechances.fits import need_fitting_game, need_known_names
from alikechances.flows import program_rows
from alikechances.kinds import state_count
from alikechances.reckoning import all_states
from alikechances.views import View


def told_parts(program, shares, names):
    """The list, ascending, of tuples of the values behind that come and the list of (state ahead, weight) for them."""
    view = View(program[0], names)
    rows = {state: row for state, row in zip(all_states(program[0]), program_rows(program))}
    found = [[] for _ in view.seen]
    for state, share in shares:
        whole = sum(rows[state])
        for number, weight in enumerate(view.row(rows[state])[:-2]):
            if weight:
                found[number].append((state, times(share, (weight, whole))))
    return [(values, parts) for values, parts in zip(view.seen, found) if parts]


def weight_of(parts):
    """The sum of the weights of a list of (state, weight)."""
    return total([weight for _, weight in parts])


def whole_of(told):
    """The weight of all that ends, of what told_parts tells."""
    return total([weight_of(parts) for _, parts in told])


def told_by(program, shares, names):
    """The list of the values behind that come, each with its chance and with the chances of the states ahead then."""
    need_program(program)
    need_shares(shares)
    need_names(names)
    need_shares_of(program, shares)
    need_known_names(names, program[0])
    told = told_parts(program, shares, names)
    whole = whole_of(told)
    return [
        (values, over(weight_of(parts), whole), [(state, over(weight, weight_of(parts))) for state, weight in parts])
        for values, parts in told
    ]


def guessed(program, shares, names, asked):
    """The list of (values told, values said, weight of both), of what told_parts tells, and the weight that ends."""
    need_program(program)
    need_shares(shares)
    need_names(names)
    need_names(asked)
    need_shares_of(program, shares)
    need_known_names(names, program[0])
    need_known_names(asked, program[0])
    told = told_parts(program, shares, names)
    view = View(program[0], asked)
    seen = {state: view.seen[number] for state, number in zip(all_states(program[0]), view.numbers)}
    return ([(values, *best_said(parts, seen)) for values, parts in told], whole_of(told))


def best_said(parts, seen):
    """The tuple (values, weight) of the likeliest of what is seen of states with weights, the least of several."""
    weights = {}
    for state, weight in parts:
        weights[seen[state]] = plus(weights.get(seen[state], NOTHING), weight)
    best = None
    for values in sorted(weights):
        if best is None or not is_at_most(weights[values], weights[best]):
            best = values
    return (best, weights[best])


def guess(program, shares, names, asked):
    """The greatest chance to say the values of the asked names ahead rightly, told those of names behind."""
    found, whole = guessed(program, shares, names, asked)
    return over(total([weight for _, _, weight in found]), whole) if found else None


def guesses(program, shares, names, asked):
    """The list of (values told, values said), None if nothing ends."""
    found, _ = guessed(program, shares, names, asked)
    return [(values, said) for values, said, _ in found] if found else None


def worth(program, shares, names, game):
    """The greatest mean of a game for one who is told the values of names behind, None if nothing ends."""
    need_program(program)
    need_shares(shares)
    need_names(names)
    need_game(game)
    need_shares_of(program, shares)
    need_known_names(names, program[0])
    need_fitting_game(game, state_count(program[0]))
    numbers = {state: number for number, state in enumerate(all_states(program[0]))}
    told = told_parts(program, shares, names)
    if not told:
        return None
    won = [
        greatest_of([total([times(weight, action[numbers[state]]) for state, weight in parts]) for action in game])
        for _, parts in told
    ]
    return over(total(won), whole_of(told))
