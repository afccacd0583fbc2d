"""A desk that answers rows of text about a Session."""

from alikechances.errors import BadCommand, BadProgram
from alikechances.kinds import are_variables
from alikechances.reading import read_tree
from alikechances.same import parting
from alikechances.session import Session
from alikechances.tables import table
from alikechances.trees import DEEPEST_EXPRESSION, is_condition, read_names, stand_among

ALONE = ("undo", "never", "weight", "states", "table")
WITH_TEXT = ("vars", "do", "see", "chance")
BETWEEN = " | "


def parts_of_row(row):
    """The tuple (command, texts) that any object is as a row; BadCommand for what is none."""
    if not isinstance(row, str):
        raise BadCommand("this is no row")
    if row in ALONE:
        return (row, ())
    command, _, text = row.partition(" ")
    if command in WITH_TEXT and text:
        return (command, (text,))
    first, _, second = text.partition(BETWEEN)
    if command == "alike" and first and second:
        return (command, (first, second))
    raise BadCommand("this is no row of the desk")


def fraction_text(fraction):
    """The text of a fraction or None."""
    return "none" if fraction is None else f"{fraction[0]}/{fraction[1]}"


def states_text(states):
    """The text of a list of states."""
    return " ".join([",".join([str(value) for value in state]) for state in states])


class Desk:
    """Holds a Session, and answers rows with texts."""

    def __init__(self):
        self.held = Session((("x", 2),))

    def session(self):
        """A copy of the Session."""
        return self.held.copy()

    def say(self, row):
        """The answer to a row; where it raises an error, nothing has changed."""
        command, texts = parts_of_row(row)
        if command == "vars":
            return self.say_vars(texts[0])
        if command == "do":
            self.held.do(self.programs(texts)[0])
            return "ok"
        if command == "see":
            self.held.see(self.condition(texts[0]))
            return "ok"
        if command == "undo":
            self.held.undo()
            return "ok"
        if command == "chance":
            return fraction_text(self.held.chance(self.condition(texts[0])))
        if command == "alike":
            return self.say_alike(texts)
        return self.say_alone(command)

    def say_alone(self, command):
        """The answer to a command that stands alone and changes nothing."""
        if command == "never":
            return fraction_text(self.held.chance_never())
        if command == "weight":
            return fraction_text(self.held.weight())
        if command == "states":
            return states_text([state for state, _ in self.held.shares()]) or "none"
        return str(len([line for line in table(self.held.program()) if line[1] != (1, 1)]))

    def say_vars(self, text):
        """Begins a new Session with the variables that a text writes."""
        variables = read_tree(text, "variables alone")
        if not are_variables(variables):
            raise BadProgram("these are no variables")
        self.held = Session(variables)
        return "ok"

    def say_alike(self, texts):
        """Whether the statements of two texts are alike, and what parts them if not."""
        program, other = self.programs(texts)
        found = parting(program, other)
        if found is None:
            return "yes"
        states, question = found[:2]
        return f"no {states_text(states)} {question[0]}"

    def programs(self, texts):
        """The list of what would be the programs of the statements that texts write, perhaps none by their bounds."""
        return [(self.held.variables, read_tree(text, "statement alone")) for text in texts]

    def condition(self, text):
        """The condition that a text writes; BadProgram for what is none of the variables."""
        found = read_tree(text, "condition alone")
        if not is_condition(found, DEEPEST_EXPRESSION) or not stand_among(read_names(found), self.held.variables):
            raise BadProgram("this is no condition")
        return found
