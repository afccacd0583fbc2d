"""Sessions: shares of states, and what is done to them and seen of them, one deed behind the other."""

from alikechances.ahead import weights_behind
from alikechances.building import put_together, whole
from alikechances.checks import need_condition, need_names, need_no_choices, need_program, need_shares, need_vars
from alikechances.errors import BadNames, BadNumber, Full, NotAlike, NothingToUndo
from alikechances.exact import NOTHING, is_at_most, lowest, over, plus, total
from alikechances.fits import need_fitting_shares, need_known_condition, need_known_names
from alikechances.kinds import is_between
from alikechances.reckoning import all_states, named_values, truth_of

MOST_DEEDS = 40


class Session:
    """Variables, the shares of their states, and the deeds that are in force."""

    def __init__(self, variables, shares=None):
        need_vars(variables)
        if shares is None:
            shares = [(state, (1, 1)) for state in all_states(variables)]
        need_shares(shares)
        need_fitting_shares(shares, variables)
        self.variables = variables
        self.first = tuple([(state, lowest(above, below)) for state, (above, below) in shares])
        self.done = []
        # At first and behind each deed: the shares, and the endless weight kept aside.
        self.stages = [(self.first, NOTHING)]

    def do(self, program):
        """Works a program: the shares become the weights behind, the endless weight is kept aside."""
        need_program(program)
        need_no_choices(program)
        if program[0] != self.variables:
            raise NotAlike("the program has other variables")
        self.need_room()
        shares, aside = self.stages[-1]
        behind, _, endless = weights_behind(program, shares)
        self.add_deed(program, behind, plus(aside, endless))

    def see(self, condition):
        """Keeps the shares of the states in which a condition holds."""
        need_condition(condition)
        need_known_condition(condition, self.variables)
        self.need_room()
        self.add_deed(("see", condition), self.shares_where(condition), self.stages[-1][1])

    def undo(self):
        """Takes back the last deed that is in force."""
        if not self.done:
            raise NothingToUndo("nothing is in force")
        self.done.pop()
        self.stages.pop()

    def need_room(self):
        """Full where as many deeds are in force as may be."""
        if len(self.done) == MOST_DEEDS:
            raise Full("forty deeds are in force")

    def add_deed(self, deed, shares, aside):
        """Puts a deed in force, with the shares and the endless weight kept aside behind it."""
        self.done.append(deed)
        self.stages.append((tuple(shares), aside))

    def shares_where(self, condition):
        """The list of the shares of the states in which a condition holds."""
        shares, _ = self.stages[-1]
        return [
            (state, share) for state, share in shares if truth_of(condition, named_values(self.variables, state))
        ]

    def let_by(self):
        """All that was let by: the shares and the endless weight kept aside."""
        shares, aside = self.stages[-1]
        return plus(total([share for _, share in shares]), aside)

    def over_let_by(self, weight):
        """A weight over all that was let by, None if nothing was."""
        let_by = self.let_by()
        return over(weight, let_by) if let_by[0] else None

    def chance(self, condition):
        """The weight of a condition over all that was let by, None if nothing was."""
        need_condition(condition)
        need_known_condition(condition, self.variables)
        return self.over_let_by(total([share for _, share in self.shares_where(condition)]))

    def chance_never(self):
        """The endless weight over all that was let by, None if nothing was."""
        return self.over_let_by(self.stages[-1][1])

    def shares(self):
        """The list of the shares as they are."""
        return list(self.stages[-1][0])

    def weight(self):
        """The fraction that was let by of what was there at first."""
        return over(self.let_by(), total([share for _, share in self.first]))

    def deeds(self):
        """The list of the deeds that are in force: programs and ("see", condition)."""
        return list(self.done)

    def program(self):
        """The one program that does all deeds that are in force; BadProgram if it is none."""
        statements = [deed if deed[0] == "see" else deed[1] for deed in self.done]
        found = statements[0] if statements else ("skip",)
        for statement in statements[1:]:
            found = put_together(found, statement)
        return whole(self.variables, found)

    def copy(self):
        """An equal Session that goes its own way."""
        other = Session(self.variables, list(self.first))
        other.done = list(self.done)
        other.stages = list(self.stages)
        return other

    def best_look(self, names):
        """The first of names whose value tells most of which state it is, None if no state has a share."""
        need_names(names)
        if not names:
            raise BadNames("there is no name")
        need_known_names(names, self.variables)
        if not self.stages[-1][0]:
            return None
        best = names[0]
        for name in names[1:]:
            if not is_at_most(self.likeliest_told(name), self.likeliest_told(best)):
                best = name
        return best

    def likeliest_told(self, name):
        """For each value of a variable the greatest share of a state with it, added up."""
        greatest = {}
        for state, share in self.stages[-1][0]:
            value = named_values(self.variables, state)[name]
            if is_at_most(greatest.get(value, NOTHING), share):
                greatest[value] = share
        return total(list(greatest.values()))

    def __len__(self):
        return len(self.done)

    def __getitem__(self, at):
        if not is_between(at, 0, len(self.done) - 1):
            raise BadNumber("there is no deed in force with this number")
        return self.done[at]

    def __iter__(self):
        raise TypeError("a Session is not gone through")

    def __eq__(self, other):
        return (
            isinstance(other, Session) and self.variables == other.variables and self.first == other.first
            and self.done == other.done
        )
