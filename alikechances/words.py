"""The words of the language, its names, and the words that a text is made of."""

LETTERS = "abcdefghijklmnopqrstuvwxyz"
CAPITALS = "ABCDEFGHIJKLMNOPQRSTUVWXYZ"
FIGURES = "0123456789"
RESERVED = (
    "vars", "skip", "draw", "from", "weight", "choose", "see", "if", "then", "else", "while", "do",
    "true", "is", "below", "not", "and", "or", "least", "most",
)
SIGNS = (":=", ";", ",", "(", ")", "+", "-", "*")
LONGEST_NAME = 10


def is_name(thing):
    """Whether any object is a name of a variable."""
    if not isinstance(thing, str) or not 1 <= len(thing) <= LONGEST_NAME:
        return False
    if thing in RESERVED or thing[0] not in LETTERS:
        return False
    return all([sign in LETTERS or sign in FIGURES for sign in thing])


def is_number_word(run):
    """Whether a run of letters and figures is a number as texts write it."""
    if not all([sign in FIGURES for sign in run]):
        return False
    return len(run) == 1 or (len(run) == 2 and run[0] != "0")


def run_word(run, place):
    """The word that a whole run of letters and figures is, its kind `none` if it is none."""
    if run in RESERVED:
        return (run, run, place)
    if is_name(run):
        return ("name", run, place)
    if is_number_word(run):
        return ("number", int(run), place)
    return ("none", run, place)


def sign_word(text, place):
    """The word that a sign at a place is, its kind `none` if it is none."""
    for sign in SIGNS:
        if text.startswith(sign, place):
            return (sign, sign, place)
    return ("none", text[place], place)


def run_end(text, place):
    """Where the run of letters and figures ends that begins at a place: there, if none does."""
    end = place
    while end < len(text) and (text[end] in LETTERS or text[end] in CAPITALS or text[end] in FIGURES):
        end += 1
    return end


def words_of(text):
    """The words of a text as tuples (kind, value, place), the last one of the kind `end`."""
    found = []
    place = 0
    while place < len(text):
        end = run_end(text, place)
        if end > place:
            found.append(run_word(text[place:end], place))
            place = end
        elif text[place] in " \n":
            place += 1
        else:
            word = sign_word(text, place)
            found.append(word)
            place += len(word[1])
    found.append(("end", "", len(text)))
    return found
