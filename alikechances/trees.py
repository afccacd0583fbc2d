"""What is an expression, a condition, a statement and a program, and what stands in one."""

from alikechances.kinds import are_variables, is_between, is_tuple_of
from alikechances.words import is_name

MOST_NUMBER = 99
MOST_WEIGHT = 99
MOST_PAIRS = 6
MOST_STATEMENTS = 60
DEEPEST_STATEMENT = 12
DEEPEST_EXPRESSION = 10
OF_TWO_NUMBERS = ("add", "less by", "times", "least", "most")
EXPRESSIONS = ("num", "var", "add", "less by", "times", "least", "most")


def is_form(thing):
    """Whether any object is a tuple that begins with a word, as all trees do."""
    return isinstance(thing, tuple) and len(thing) > 0 and isinstance(thing[0], str)


def is_expression(thing, deep):
    """Whether any object is an expression of at most so many within one another, whatever its names."""
    if deep == 0 or not is_form(thing):
        return False
    if thing[0] == "num":
        return len(thing) == 2 and is_between(thing[1], 0, MOST_NUMBER)
    if thing[0] == "var":
        return len(thing) == 2 and is_name(thing[1])
    return thing[0] in OF_TWO_NUMBERS and are_two(thing, is_expression, deep)


def is_condition(thing, deep):
    """Whether any object is a condition of at most so many within one another, whatever its names."""
    if deep == 0 or not is_form(thing):
        return False
    if thing[0] == "true":
        return len(thing) == 1
    if thing[0] == "not":
        return len(thing) == 2 and is_condition(thing[1], deep - 1)
    if thing[0] in ("is", "below"):
        return are_two(thing, is_expression, deep)
    return thing[0] in ("and", "or") and are_two(thing, is_condition, deep)


def are_two(form, judge, deep):
    """Whether a form holds just two parts that a judge takes, one level less deep."""
    return len(form) == 3 and judge(form[1], deep - 1) and judge(form[2], deep - 1)


def is_pair(thing):
    """Whether any object is a tuple (expression, weight)."""
    if not is_tuple_of(thing, 2) or not is_between(thing[1], 1, MOST_WEIGHT):
        return False
    return is_expression(thing[0], DEEPEST_EXPRESSION)


def are_pairs(thing):
    """Whether any object is the pairs of a draw."""
    if not isinstance(thing, tuple) or not 1 <= len(thing) <= MOST_PAIRS:
        return False
    return all([is_pair(pair) for pair in thing])


def are_choices(thing):
    """Whether any object is the values of a choose."""
    if not isinstance(thing, tuple) or not 1 <= len(thing) <= MOST_PAIRS:
        return False
    return all([is_expression(value, DEEPEST_EXPRESSION) for value in thing])


def is_act(form):
    """Whether a form is a statement in which no other one stands."""
    kind = form[0]
    if kind == "skip":
        return len(form) == 1
    if kind == "see":
        return len(form) == 2 and is_condition(form[1], DEEPEST_EXPRESSION)
    if len(form) != 3 or not is_name(form[1]):
        return False
    if kind == "set":
        return is_expression(form[2], DEEPEST_EXPRESSION)
    if kind == "draw":
        return are_pairs(form[2])
    return kind == "choose" and are_choices(form[2])


def count_of(thing, deep, most):
    """How many statements any object has, None if it is none, or one with too many or too deep ones."""
    if not is_form(thing):
        return None
    if thing[0] == "seq":
        return count_of_seq(thing, deep, most)
    if deep == 0 or most == 0:
        return None
    if thing[0] in ("if", "while"):
        return count_of_holder(thing, deep, most)
    return 1 if is_act(thing) else None


def is_holder(form):
    """Whether an if or a while has as many parts as it needs and a condition, whatever the statements in it."""
    return len(form) == (4 if form[0] == "if" else 3) and is_condition(form[1], DEEPEST_EXPRESSION)


def count_of_holder(form, deep, most):
    """As count_of, of an if or a while."""
    if not is_holder(form):
        return None
    held = count_of_all(form[2:], deep - 1, most - 1)
    return None if held is None else held + 1


def count_of_seq(form, deep, most):
    """As count_of, of a seq, which is no statement of its own."""
    if len(form) != 2 or not isinstance(form[1], tuple) or len(form[1]) < 2:
        return None
    if any([is_form(part) and part[0] == "seq" for part in form[1]]):
        return None
    return count_of_all(form[1], deep, most)


def count_of_all(things, deep, most):
    """As count_of, of several side by side; it stops at the first that is too much, however many there are."""
    total = 0
    for thing in things:
        more = count_of(thing, deep, most - total)
        if more is None:
            return None
        total += more
    return total


def is_loose(thing):
    """Whether any object is a statement as papers hold it: seqs of any length within seqs, however many statements."""
    if not is_form(thing):
        return False
    if thing[0] == "seq":
        return len(thing) == 2 and isinstance(thing[1], tuple) and all([is_loose(part) for part in thing[1]])
    if thing[0] in ("if", "while"):
        return is_holder(thing) and all([is_loose(part) for part in thing[2:]])
    return is_act(thing)


def is_whole_program(thing):
    """Whether any object is a program."""
    if not is_tuple_of(thing, 2) or not are_variables(thing[0]):
        return False
    if count_of(thing[1], DEEPEST_STATEMENT, MOST_STATEMENTS) is None:
        return False
    return stand_among(statement_names(thing[1]), thing[0])


def stand_among(names, variables):
    """Whether all of the names are names of the variables."""
    known = {name: True for name, _ in variables}
    return all([name in known for name in names])


def read_names(form):
    """The names in an expression or a condition, as often as they stand there."""
    if form[0] == "var":
        return [form[1]]
    return [name for part in form[1:] if isinstance(part, tuple) for name in read_names(part)]


def parts_of(statement):
    """The statements that stand right in a statement."""
    if statement[0] == "seq":
        return statement[1]
    return statement[2:] if statement[0] in ("if", "while") else ()


def statements_in(statement):
    """All statements of a statement but the seqs, in the order of the text."""
    own = [] if statement[0] == "seq" else [statement]
    return own + [inner for part in parts_of(statement) for inner in statements_in(part)]


def forms_in(statement):
    """The expressions and conditions of a statement itself, without those of the ones in it."""
    if statement[0] in ("see", "if", "while"):
        return [statement[1]]
    if statement[0] == "draw":
        return [expression for expression, _ in statement[2]]
    if statement[0] == "choose":
        return list(statement[2])
    return [statement[2]] if statement[0] == "set" else []


def changed_names(statement):
    """The names that are set, drawn or chosen in a statement, as often as they stand there."""
    return [act[1] for act in statements_in(statement) if act[0] in ("set", "draw", "choose")]


def statement_names(statement):
    """All names in a statement, as often as they stand there."""
    forms = [form for act in statements_in(statement) for form in forms_in(act)]
    return changed_names(statement) + [name for form in forms for name in read_names(form)]
