"""Statements and bodies, by their form alone: which cells and procedures there are does not matter here."""

from showncalls.base.checks import are_integers
from showncalls.base.words import LARGEST_SIZE, is_name

MOST_STATEMENTS = 24
MOST_DEPTH = 3
MOST_KEYS = 2
LONGEST_TABLE = 16

# How many pieces stand ahead of the inner bodies, the first word of the statement counted.
AHEAD_OF_BODIES = {"if": 3, "either": 1, "often": 1}


def is_body(value, depth):
    """Whether a value is a body, by its form, whose bodies lie at most so deep, however many statements it has."""
    if not isinstance(value, tuple) or depth < 1:
        return False
    for statement in value:
        if not isinstance(statement, tuple) or not statement or not _is_statement(statement[0], statement[1:], depth):
            return False
    return True


def _is_statement(kind, parts, depth):
    """Whether this is the first word of a statement, by its form, with what stands behind it."""
    many = len(parts)
    if kind == "say":
        return many == 2 and is_name(parts[0]) and _is_perhaps_name(parts[1])
    if kind == "ask":
        return many == 2 and is_name(parts[0]) and is_name(parts[1])
    if kind == "hide":
        return many == 1 and is_name(parts[0])
    if kind == "set":
        return many == 3 and is_name(parts[0]) and _are_keys(parts[1]) and _is_table(parts[2])
    if kind == "call":
        return many == 3 and is_name(parts[0]) and _is_perhaps_name(parts[1]) and _is_perhaps_name(parts[2])
    if kind == "if":
        if many != 4 or not is_name(parts[0]) or not _are_numbers(parts[1:2]):
            return False
        return is_body(parts[2], depth - 1) and is_body(parts[3], depth - 1)
    if kind == "either":
        return many == 2 and is_body(parts[0], depth - 1) and is_body(parts[1], depth - 1)
    return kind == "often" and many == 1 and is_body(parts[0], depth - 1)


def _is_perhaps_name(value):
    return value is None or is_name(value)


def _are_keys(value):
    """Whether a value is a tuple of at most two different names."""
    if not isinstance(value, tuple) or len(value) > MOST_KEYS or not all([is_name(name) for name in value]):
        return False
    return len(value) < 2 or value[0] != value[1]


def _is_table(value):
    """Whether a value can be the table of a "set", whatever its cells are."""
    return isinstance(value, tuple) and 1 <= len(value) <= LONGEST_TABLE and _are_numbers(value)


def _are_numbers(values):
    """Whether all of some values, at least one, are numbers that some cell can hold."""
    return are_integers(values) and 0 <= min(values) and max(values) < LARGEST_SIZE


def inner_bodies(statement):
    """The list of the inner bodies of a statement."""
    kind = statement[0]
    return list(statement[AHEAD_OF_BODIES[kind]:]) if kind in AHEAD_OF_BODIES else []


def statements_of(body):
    """The list of all statements of a body and of those inside it, in reading order."""
    found = []
    for statement in body:
        found.append(statement)
        if statement[0] in AHEAD_OF_BODIES:
            for inner in inner_bodies(statement):
                found.extend(statements_of(inner))
    return found


def with_new_names(body, names):
    """A body with calls of other procedures, by a dict from old names to new ones."""
    return tuple([_with_new_name(statement, names) for statement in body])


def _with_new_name(statement, names):
    if statement[0] == "call":
        return ("call", names.get(statement[1], statement[1])) + statement[2:]
    bodies = inner_bodies(statement)
    ahead = len(statement) - len(bodies)
    return statement[:ahead] + tuple([with_new_names(body, names) for body in bodies])
