"""Programs read from texts and written as texts."""

from alikechances.checks import need_program
from alikechances.reading import read_tree

SIGNS_BETWEEN = {
    "add": "+", "less by": "-", "times": "*", "is": "is", "below": "below", "and": "and", "or": "or",
}


def read_program(text):
    """The program that a text writes."""
    program = read_tree(text, "program")
    need_program(program)
    return program


def form_text(form):
    """The text of an expression or a condition."""
    kind = form[0]
    if kind in ("num", "var"):
        return str(form[1])
    if kind == "true":
        return "true"
    if kind == "not":
        return f"not {form_text(form[1])}"
    left = form_text(form[1])
    right = form_text(form[2])
    if kind in ("least", "most"):
        return f"{kind}({left}, {right})"
    return f"({left} {SIGNS_BETWEEN[kind]} {right})"


def act_text(act):
    """The text of a set, draw or choose."""
    if act[0] == "set":
        return f"{act[1]} := {form_text(act[2])}"
    if act[0] == "draw":
        parts = [f"{form_text(expression)} weight {weight}" for expression, weight in act[2]]
    else:
        parts = [form_text(expression) for expression in act[2]]
    listed = ", ".join(parts)
    return f"{act[0]} {act[1]} from {listed}"


def statement_text(statement):
    """The text of a statement."""
    kind = statement[0]
    if kind == "skip":
        return "skip"
    if kind == "seq":
        return "; ".join([statement_text(part) for part in statement[1]])
    if kind == "see":
        return f"see {form_text(statement[1])}"
    if kind == "while":
        return f"while {form_text(statement[1])} do ({statement_text(statement[2])})"
    if kind == "if":
        branches = f"then ({statement_text(statement[2])}) else ({statement_text(statement[3])})"
        return f"if {form_text(statement[1])} {branches}"
    return act_text(statement)


def write_program(program):
    """The text of a program."""
    need_program(program)
    listed = ", ".join([f"{name} {size}" for name, size in program[0]])
    return f"vars {listed}; {statement_text(program[1])}"
