"""The places of a procedure, by the numbers of its statements in reading order."""

from showncalls.base.statements import AHEAD_OF_BODIES, statements_of


def places_of(body, many):
    """The tuple of a triple for each place of a body with so many statements: its statement, the place behind it, the
    places into its bodies."""
    return tuple(_places_in(body, 0, many)) + ((None, many, ()),)


def _places_in(body, first, last_behind):
    """The list of the triples of a body, whose first statement has this number, and the last one this behind it."""
    found = []
    following = len(body)
    for statement in body:
        following -= 1
        place = first + len(found)
        if statement[0] in AHEAD_OF_BODIES:
            bodies = statement[AHEAD_OF_BODIES[statement[0]]:]
            many = sum([len(statements_of(inner)) for inner in bodies])
            behind = place + 1 + many if following else last_behind
            found.extend(_places_with(statement, bodies, place, behind))
        else:
            found.append((statement, place + 1 if following else last_behind, ()))
    return found


def _places_with(statement, bodies, place, behind):
    """The list of the triples of a statement with this number and of those in its inner bodies."""
    # Behind its body, an "often" is reached again.
    back = place if statement[0] == "often" else behind
    intos = []
    inner_places = []
    for body in bodies:
        first = place + 1 + len(inner_places)
        intos.append(first if body else back)
        inner_places.extend(_places_in(body, first, back))
    return [(statement, behind, tuple(intos))] + inner_places
