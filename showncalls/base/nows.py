"""What the begins, the states and the nows of a procedure look like."""

from showncalls.base.cells import is_row_among
from showncalls.base.checks import all_rows, are_integers, is_number


class Shape:
    """The values that can be begins, states and nows of a procedure. A state is a pair (standing, own)."""

    def __init__(self, standings, procedure, is_main, places):
        own_sizes = [size for cell, size in procedure.own]
        # In a begin all own cells hold 0, but for the first one of a procedure that can be called.
        passed = 0 if is_main else 1
        begin_sizes = own_sizes[:passed] + [1 for size in own_sizes[passed:]]
        # Dicts, in which each row is looked up at once.
        self._standings = standings
        self._owns = {row: True for row in all_rows(own_sizes)}
        self._begin_owns = {row: True for row in all_rows(begin_sizes)}
        # By place: the procedure that is called there, or None.
        self._calls = tuple([_called_by(statement) for statement, behind, intos in places])

    def is_state(self, value):
        """Whether a value is a pair of a standing and of numbers of the own cells."""
        if not isinstance(value, tuple) or len(value) != 2 or not _are_rows(value[0], value[1]):
            return False
        return value[0] in self._standings and value[1] in self._owns

    def is_begin(self, value):
        """Whether a value is one of the begins of the procedure."""
        if not isinstance(value, tuple) or len(value) != 2 or not _are_rows(value[0], value[1]):
            return False
        return value[0] in self._standings and value[1] in self._begin_owns

    def is_at(self, place, own):
        """Whether these are a place of the procedure and numbers of its own cells."""
        return is_number(place, len(self._calls)) and is_row_among(own, self._owns)

    def called_at(self, place):
        """The name of the procedure that is called at a place, or None."""
        return self._calls[place]


def _are_rows(one, other):
    """Whether two values are tuples of integers."""
    return isinstance(one, tuple) and isinstance(other, tuple) and are_integers(one + other)


def _called_by(statement):
    return statement[1] if statement is not None and statement[0] == "call" else None
