"""Programs put together of others."""

from alikechances.checks import need_condition, need_names, need_program, need_vars
from alikechances.errors import BadNames, NotAlike
from alikechances.fits import need_known_condition, need_same_vars


def in_order(statement):
    """The statements that a statement does one behind the other, as a tuple."""
    return statement[1] if statement[0] == "seq" else (statement,)


def put_together(first, second):
    """The statement that does the first one and then the second one."""
    return ("seq", in_order(first) + in_order(second))


def whole(variables, statement):
    """The program of variables and a statement, BadProgram if it is none."""
    program = (variables, statement)
    need_program(program)
    return program


def then(program, other):
    """The program that does the first one and then the second one."""
    need_program(program)
    need_program(other)
    need_same_vars(program, other)
    return whole(program[0], put_together(program[1], other[1]))


def either(condition, program, other):
    """The program that does the first one where the condition holds, else the second one."""
    need_condition(condition)
    need_program(program)
    need_program(other)
    need_known_condition(condition, program[0])
    need_same_vars(program, other)
    return whole(program[0], ("if", condition, program[1], other[1]))


def around(condition, program):
    """The program that does another one again and again while the condition holds."""
    need_condition(condition)
    need_program(program)
    need_known_condition(condition, program[0])
    return whole(program[0], ("while", condition, program[1]))


def with_vars(program, variables):
    """The program with other variables, of which its own are some."""
    need_program(program)
    need_vars(variables)
    if not all([variable in variables for variable in program[0]]):
        raise NotAlike("the variables of the program are not among these")
    return whole(variables, program[1])


def renamed(program, names):
    """The program with other names of its variables, all put in at once."""
    need_program(program)
    need_names(names)
    variables, statement = program
    if len(names) != len(variables):
        raise BadNames("these are not as many names as there are variables")
    new = {old: name for (old, _), name in zip(variables, names)}
    sized = tuple([(new[old], size) for old, size in variables])
    return whole(sized, renamed_statement(statement, new))


def renamed_form(form, new):
    """An expression or a condition with new names by the old ones."""
    if form[0] == "var":
        return ("var", new[form[1]])
    parts = [renamed_form(part, new) if isinstance(part, tuple) else part for part in form[1:]]
    return (form[0], *parts)


def renamed_statement(statement, new):
    """A statement with new names by the old ones."""
    kind = statement[0]
    if kind == "skip":
        return statement
    if kind == "seq":
        return ("seq", tuple([renamed_statement(part, new) for part in statement[1]]))
    if kind in ("see", "if", "while"):
        held = [renamed_statement(part, new) for part in statement[2:]]
        return (kind, renamed_form(statement[1], new), *held)
    return (kind, new[statement[1]], renamed_worth(statement, new))


def renamed_worth(act, new):
    """What stands behind the name in a set, draw or choose, with new names by the old ones."""
    if act[0] == "set":
        return renamed_form(act[2], new)
    if act[0] == "draw":
        return tuple([(renamed_form(expression, new), weight) for expression, weight in act[2]])
    return tuple([renamed_form(expression, new) for expression in act[2]])
