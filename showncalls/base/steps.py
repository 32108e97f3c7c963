"""What one move does within a frame, and what calls pass on and give back."""


class Steps:
    """The moves of the procedures of a program within one frame. A now is a triple (place, standing, own)."""

    def __init__(self, shared, procedures):
        # By procedure: for each place the statement, the place behind it and the places into its bodies.
        self._places = {procedure.called: procedure.places for procedure in procedures}
        self._shared_places = {cell: at for at, cell in enumerate(sorted(shared))}
        self._own_places = {procedure.called: {procedure.own[at][0]: at for at in range(len(procedure.own))}
                            for procedure in procedures}
        self._sizes = {procedure.called: {**shared, **dict(procedure.own)} for procedure in procedures}
        self._zeros = {procedure.called: tuple([0 for pair in procedure.own]) for procedure in procedures}

    def inner_moves(self, name, now):
        """The list of pairs of a line, or None, and the now behind it, at a statement that is no call."""
        statement, place_behind, intos = self._places[name][now[0]]
        kind = statement[0]
        behind = (place_behind,) + now[1:]
        if kind == "set":
            return [(None, self._holding(name, behind, statement[1], self._looked_up(name, now, statement)))]
        if kind == "hide":
            return [(None, self._holding(name, behind, statement[1], number))
                    for number in range(self._sizes[name][statement[1]])]
        if kind == "ask":
            return [(statement[:2] + (number,), self._holding(name, behind, statement[2], number))
                    for number in range(self._sizes[name][statement[2]])]
        if kind == "say":
            told = () if statement[2] is None else (self._number(name, now, statement[2]),)
            return [(statement[:2] + told, behind)]
        if kind == "if":
            intos = intos[:1] if self._number(name, now, statement[1]) == statement[2] else intos[1:]
        elif kind == "often":
            intos = intos + (place_behind,)
        return [(None, (place,) + now[1:]) for place in intos]

    def begin_given(self, name, now):
        """The begin that the call at a now gives."""
        called, cell = self._places[name][now[0]][0][1:3]
        own = self._zeros[called]
        if cell is not None:
            own = (self._number(name, now, cell),) + own[1:]
        return (now[1], own)

    def now_given_back(self, name, now, end):
        """The now behind the call at a now, if it is left with this standing and these own numbers."""
        statement, place_behind, intos = self._places[name][now[0]]
        cell = statement[3]
        behind = (place_behind, end[0], now[2])
        return behind if cell is None else self._holding(name, behind, cell, end[1][0])

    def _looked_up(self, name, now, statement):
        """The number that the table of a "set" has for the row that its cells hold."""
        row = 0
        for cell in statement[2]:
            row = row * self._sizes[name][cell] + self._number(name, now, cell)
        return statement[3][row]

    def _number(self, name, now, cell):
        """The number that a cell holds."""
        if cell in self._shared_places:
            return now[1][self._shared_places[cell]]
        return now[2][self._own_places[name][cell]]

    def _holding(self, name, now, cell, number):
        """A now in which a cell holds another number."""
        place, standing, own = now
        if cell in self._shared_places:
            return (place, _replaced(standing, self._shared_places[cell], number), own)
        return (place, standing, _replaced(own, self._own_places[name][cell], number))


def _replaced(numbers, at, number):
    return numbers[:at] + (number,) + numbers[at + 1:]
