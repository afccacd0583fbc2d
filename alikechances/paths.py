"""Ways into statements: a tuple of places, through a seq its index, an if 0 or 1, a while 0."""

from alikechances.trees import parts_of


def on_the_way(statement, path):
    """The list of the statements from the whole to the one that a path leads to, None if it leads nowhere."""
    found = [statement]
    for at in path:
        parts = parts_of(found[-1])
        if at >= len(parts):
            return None
        found.append(parts[at])
    return found


def with_part(statement, at, part):
    """A statement with another one in the place of its part with a number."""
    if statement[0] == "seq":
        return ("seq", (*statement[1][:at], part, *statement[1][at + 1:]))
    return (*statement[:at + 2], part, *statement[at + 3:])


def exchanged(met, path, after):
    """The whole statement with another one in the place of the last one that was met on a path."""
    for whole, at in list(zip(met, path))[::-1]:
        after = with_part(whole, at, after)
    return after


def paths_in(statement):
    """The paths to all statements of a statement, itself and the seqs among them, in the order of the text."""
    found = [()]
    for at, part in enumerate(parts_of(statement)):
        found.extend([(at, *path) for path in paths_in(part)])
    return found
