"""Runs that are drawn by tickets."""

from alikechances.checks import need_no_choices, need_number, need_program, need_state, need_tickets, need_world
from alikechances.errors import BadNumber, BadTickets, TooMany
from alikechances.fits import need_fitting_state
from alikechances.outcomes import weighed_outcomes
from alikechances.reckoning import named_values, number_of, truth_of
from alikechances.worlds import need_straight, walked

MOST_ACTS = 1000
MOST_TICKETS = 10000


class TicketRun:
    """One run of a program without choices by tickets: where it is, and what is left to do and to take."""

    def __init__(self, program, state, tickets):
        variables, statement = program
        self.sizes = {name: size for name, size in variables}
        self.named = named_values(variables, state)
        self.todo = [statement]
        self.tickets = tickets
        self.used = 0
        self.acts = 0

    def go(self):
        """Does all that is to do; returns how the run ends."""
        while self.todo:
            answer = self.step(self.todo.pop())
            if answer is not None:
                return answer
        return ("ended", tuple([self.named[name] for name in self.sizes]), self.used)

    def step(self, statement):
        """Does the next statement, so far as it is one act; returns how the run ends if it ends there."""
        kind = statement[0]
        if kind == "seq":
            self.todo.extend(statement[1][::-1])
        elif kind != "skip":
            if self.acts == MOST_ACTS:
                return ("turns", self.used)
            self.acts += 1
            return self.act(kind, statement)
        return None

    def act(self, kind, statement):
        """Does a set, draw or see, or asks the condition of an if or while."""
        if kind == "set":
            self.put(statement[1], statement[2])
            return None
        if kind == "draw":
            return self.draw(statement[1], statement[2])
        truth = truth_of(statement[1], self.named)
        if kind == "see":
            return None if truth else ("refused", self.used)
        if kind == "if":
            self.todo.append(statement[2] if truth else statement[3])
        elif truth:
            self.todo.extend([statement, statement[2]])
        return None

    def put(self, name, expression):
        """Sets a variable."""
        self.named[name] = number_of(expression, self.named) % self.sizes[name]

    def draw(self, name, pairs):
        """Draws a variable by the next ticket."""
        whole = sum([weight for _, weight in pairs])
        if self.used == len(self.tickets):
            return ("wants", whole, self.used)
        left = self.tickets[self.used]
        if left >= whole:
            raise BadTickets(self.used)
        self.used += 1
        for expression, weight in pairs:
            if left < weight:
                self.put(name, expression)
                return None
            left -= weight
        return None


def run_by(program, state, tickets):
    """How a program runs from a state by tickets."""
    need_program(program)
    need_state(state)
    need_tickets(tickets)
    need_no_choices(program)
    need_fitting_state(state, program[0])
    return TicketRun(program, state, tickets).go()


def tickets_of(program, state, world):
    """The least tickets by which a program comes by a world from a state."""
    need_program(program)
    need_state(state)
    need_world(world)
    need_straight(program)
    return walked(program, state, world).tickets


def tickets_least(program, state):
    """The least number of tickets of which one tells the whole run."""
    need_program(program)
    need_state(state)
    need_no_choices(program)
    need_fitting_state(state, program[0])
    return ticket_count(weighed_outcomes(program, state))


def ticket_count(weighed):
    """The sum of the weights of a list of (outcome, weight)."""
    return sum([weight for _, weight in weighed])


def by_ticket(program, state, number):
    """How the run ends that the ticket with a number tells."""
    need_program(program)
    need_state(state)
    need_number(number)
    need_no_choices(program)
    need_fitting_state(state, program[0])
    weighed = weighed_outcomes(program, state)
    many = ticket_count(weighed)
    if number >= many:
        raise BadNumber("there are not so many tickets")
    if many > MOST_TICKETS:
        raise TooMany("there are more than ten thousand tickets")
    return outcome_at(weighed, number)


def outcome_at(weighed, number):
    """The outcome in whose stretch a number lies."""
    for outcome, weight in weighed:
        if number < weight:
            return outcome
        number -= weight
    return None
