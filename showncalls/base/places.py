"""The places of a procedure, by the numbers of its statements in reading order."""

from showncalls.base.statements import inner_bodies, statements_of


def places_of(body):
    """The tuple of a triple for each place: its statement, the place behind it, the places into its bodies."""
    end = len(statements_of(body))
    return tuple(_places_in(body, 0, end)) + ((None, end, ()),)


def _places_in(body, first, last_behind):
    """The list of the triples of a body, whose first statement has this number, and the last one this behind it."""
    found = []
    place = first
    for at, statement in enumerate(body):
        following = place + len(statements_of((statement,)))
        behind = following if at + 1 < len(body) else last_behind
        found.extend(_places_with(statement, place, behind))
        place = following
    return found


def _places_with(statement, place, behind):
    """The list of the triples of a statement with this number and of those in its inner bodies."""
    # Behind its body, an "often" is reached again.
    back = place if statement[0] == "often" else behind
    intos = []
    inner_places = []
    first = place + 1
    for body in inner_bodies(statement):
        intos.append(first if body else back)
        inner_places.extend(_places_in(body, first, back))
        first = first + len(statements_of(body))
    return [(statement, behind, tuple(intos))] + inner_places
