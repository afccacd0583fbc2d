"""Texts read as trees, by the form alone.

What has to be read yet stands on a stack of goals, what was read on one of
values: texts may be nested much deeper than calls may be.
"""

from alikechances.errors import BadText
from alikechances.trees import EXPRESSIONS
from alikechances.words import words_of

LONGEST_TEXT = 4000
# By a goal and the kind of the next word: the goals that come in its place.
RULES = {
    ("variables", ","): (",", "variable", "variables"),
    ("statements", ";"): (";", "statement", "statements"),
    ("pairs", ","): (",", "pair", "pairs"),
    ("choices", ","): (",", "value", "choices"),
    ("statement", "skip"): ("skip", "make skip", "add"),
    ("statement", "name"): ("name", ":=", "expression", "make set", "add"),
    ("statement", "draw"): ("draw", "name", "from", "list", "pair", "pairs", "tuple", "make draw", "add"),
    ("statement", "choose"): ("choose", "name", "from", "list", "value", "choices", "tuple", "make choose", "add"),
    ("statement", "see"): ("see", "condition", "make see", "add"),
    ("statement", "if"): ("if", "condition", "then", "held", "else", "held", "make if", "add"),
    ("statement", "while"): ("while", "condition", "do", "held", "make while", "add"),
    ("expression", "number"): ("number", "make num"),
    ("expression", "name"): ("name", "make var"),
    ("expression", "("): ("(", "expression", "reckoned"),
    ("expression", "least"): ("least", "two numbers", "make least"),
    ("expression", "most"): ("most", "two numbers", "make most"),
    ("reckoned", "+"): ("+", "expression", ")", "make add"),
    ("reckoned", "-"): ("-", "expression", ")", "make less by"),
    ("reckoned", "*"): ("*", "expression", ")", "make times"),
    ("condition", "true"): ("true", "make true"),
    ("condition", "not"): ("not", "condition", "make not"),
    ("condition", "("): ("(", "either", "asked"),
    ("compared", "is"): ("is", "expression", ")", "make is"),
    ("compared", "below"): ("below", "expression", ")", "make below"),
    ("combined", "and"): ("and", "condition", ")", "make and"),
    ("combined", "or"): ("or", "condition", ")", "make or"),
    ("either", "number"): ("expression",),
    ("either", "name"): ("expression",),
    ("either", "least"): ("expression",),
    ("either", "most"): ("expression",),
    ("either", "true"): ("condition",),
    ("either", "not"): ("condition",),
    ("either", "("): ("(", "either", "unsettled"),
    ("unsettled number", "+"): ("reckoned",),
    ("unsettled number", "-"): ("reckoned",),
    ("unsettled number", "*"): ("reckoned",),
    ("unsettled number", "is"): ("compared",),
    ("unsettled number", "below"): ("compared",),
}
# By a goal alone, where no rule tells it by the next word.
ALWAYS = {
    "program": ("vars", "sized names", ";", "body", "couple", "end"),
    "variables alone": ("sized names", "end"),
    "statement alone": ("body", "end"),
    "condition alone": ("condition", "end"),
    "sized names": ("list", "variable", "variables", "tuple"),
    "body": ("list", "statement", "statements", "statement of list"),
    "held": ("(", "body", ")"),
    "variable": ("name", "number", "couple", "add"),
    "pair": ("expression", "weight", "number", "couple", "add"),
    "value": ("expression", "add"),
    "two numbers": ("(", "expression", ",", "expression", ")"),
    "variables": (),
    "statements": (),
    "pairs": (),
    "choices": (),
}
# Behind a bracket it hangs on what was read whether a number or a truth goes on.
BY_WHAT_WAS_READ = {
    "asked": ("compared", "combined"),
    "unsettled": ("unsettled number", "combined"),
}
PARTS = {
    "make skip": 0, "make set": 2, "make draw": 2, "make choose": 2, "make see": 1, "make if": 3, "make while": 2,
    "make num": 1, "make var": 1, "make add": 2, "make less by": 2, "make times": 2, "make least": 2,
    "make most": 2, "make true": 0, "make is": 2, "make below": 2, "make not": 1, "make and": 2, "make or": 2,
}


def take_last(values, many):
    """So many of the last values, as a tuple, taken off the stack."""
    start = len(values) - many
    parts = tuple(values[start:])
    del values[start:]
    return parts


def statement_of(parts):
    """The statement that a list of statements is."""
    return parts[0] if len(parts) == 1 else ("seq", tuple(parts))


def build(goal, values):
    """Does what a goal says with the values; returns whether it is such a goal."""
    if goal in PARTS:
        parts = take_last(values, PARTS[goal])
        values.append((goal.removeprefix("make "), *parts))
    elif goal == "list":
        values.append([])
    elif goal == "add":
        part = values.pop()
        values[-1].append(part)
    elif goal == "tuple":
        values.append(tuple(values.pop()))
    elif goal == "couple":
        values.append(take_last(values, 2))
    elif goal == "statement of list":
        values.append(statement_of(values.pop()))
    else:
        return False
    return True


def settled(goal, values):
    """A goal that hangs on what was read last, exchanged for what it means then; any other one itself."""
    if goal not in BY_WHAT_WAS_READ:
        return goal
    of_number, of_truth = BY_WHAT_WAS_READ[goal]
    return of_number if values[-1][0] in EXPRESSIONS else of_truth


def take_word(goal, word, values):
    """Takes a word that is what the goal wants; BadText with its place if it is not."""
    kind, value, place = word
    if goal != kind:
        raise BadText(place)
    if kind in ("name", "number"):
        values.append(value)


def is_readable(thing):
    """Whether any object is a str of the signs that texts are made of, and not too long."""
    if not isinstance(thing, str) or len(thing) > LONGEST_TEXT:
        return False
    return all([sign == "\n" or " " <= sign <= "~" for sign in thing])


def read_tree(text, goal):
    """The tree that a text writes by a goal, perhaps none by its bounds; BadText for any object that writes none.

    A goal "program" for a tuple (variables, statement), or one of "variables", "statement", "condition" with
    " alone" behind it.
    """
    if not is_readable(text):
        raise BadText(-1)
    words = words_of(text)
    goals = [goal]
    values = []
    at = 0
    while goals:
        goal = settled(goals.pop(), values)
        if build(goal, values):
            continue
        key = (goal, words[at][0])
        if key in RULES:
            goals.extend(RULES[key][::-1])
        elif goal in ALWAYS:
            goals.extend(ALWAYS[goal][::-1])
        else:
            take_word(goal, words[at], values)
            at += 1
    return values[0]
