"""Statements and bodies, by their form alone: which cells and procedures there are does not matter here."""

from showncalls.base.checks import is_number
from showncalls.base.words import LARGEST_SIZE, is_name

MOST_STATEMENTS = 24
MOST_DEPTH = 3
MOST_KEYS = 2
LONGEST_TABLE = 16

# What stands behind the first word of each statement. A "perhaps" is the name of a cell, or None.
FORMS = {
    "set": ("cell", "keys", "table"),
    "hide": ("cell",),
    "ask": ("word", "cell"),
    "say": ("word", "perhaps"),
    "call": ("procedure", "perhaps", "perhaps"),
    "if": ("cell", "number", "body", "body"),
    "either": ("body", "body"),
    "often": ("body",),
}
# How many pieces stand ahead of the inner bodies, the first word of the statement counted.
AHEAD_OF_BODIES = {"if": 3, "either": 1, "often": 1}


def is_body(value):
    """Whether a value is the body of a procedure, by its form."""
    return is_inner_body(value, MOST_DEPTH) and len(statements_of(value)) <= MOST_STATEMENTS


def is_inner_body(value, depth):
    """Whether a value is a body, by its form, whose bodies lie at most so deep, however many statements it has."""
    if not isinstance(value, tuple) or depth < 1:
        return False
    return all([is_statement(part, depth) for part in value])


def is_statement(value, depth):
    """Whether a value is a statement of a body, by its form, whose bodies lie at most so deep."""
    if not isinstance(value, tuple) or not value or not isinstance(value[0], str):
        return False
    form = FORMS.get(value[0])
    if form is None or len(value) != len(form) + 1:
        return False
    return all([is_piece(kind, value[at + 1], depth) for at, kind in enumerate(form)])


def is_piece(kind, value, depth):
    """Whether a value can stand in a statement where a piece of this kind is due."""
    if kind == "body":
        return is_inner_body(value, depth - 1)
    if kind == "keys":
        return is_keys(value)
    if kind == "table":
        return is_set_table(value)
    if kind == "number":
        return is_number(value, LARGEST_SIZE)
    return is_name(value) or kind == "perhaps" and value is None


def is_keys(value):
    """Whether a value is a tuple of at most two different names."""
    if not isinstance(value, tuple) or len(value) > MOST_KEYS or not all([is_name(name) for name in value]):
        return False
    return len(set(value)) == len(value)


def is_set_table(value):
    """Whether a value can be the table of a "set", whatever its cells are."""
    if not isinstance(value, tuple) or not 1 <= len(value) <= LONGEST_TABLE:
        return False
    return all([is_number(number, LARGEST_SIZE) for number in value])


def cells_in(statement):
    """The list of the names of all cells in a statement, without those in its inner bodies."""
    found = []
    for at, kind in enumerate(FORMS[statement[0]]):
        piece = statement[at + 1]
        if kind == "keys":
            found.extend(piece)
        elif kind == "cell" or kind == "perhaps" and piece is not None:
            found.append(piece)
    return found


def inner_bodies(statement):
    """The list of the inner bodies of a statement."""
    kind = statement[0]
    return list(statement[AHEAD_OF_BODIES[kind]:]) if kind in AHEAD_OF_BODIES else []


def statements_of(body):
    """The list of all statements of a body and of those inside it, in reading order."""
    found = []
    for statement in body:
        found.append(statement)
        for inner in inner_bodies(statement):
            found.extend(statements_of(inner))
    return found


def with_new_names(body, names):
    """A body with calls of other procedures, by a dict from old names to new ones."""
    return tuple([_with_new_name(statement, names) for statement in body])


def _with_new_name(statement, names):
    if statement[0] == "call":
        return ("call", names.get(statement[1], statement[1])) + statement[2:]
    bodies = inner_bodies(statement)
    ahead = len(statement) - len(bodies)
    return statement[:ahead] + tuple([with_new_names(body, names) for body in bodies])
