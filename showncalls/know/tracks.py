"""What comes next at each now of a program, on the codes of nows."""

from showncalls.know.codes import Codes, bits_of

# There are very many masks of ends; so many of those that have been asked about are kept.
MOST_BEHIND = 50000


def tracks_of(program):
    """The tracks of a program, which are made once."""
    if "tracks" not in program._kept:
        program._kept["tracks"] = Tracks(program)
    return program._kept["tracks"]


class Tracks:
    """Single moves, what they do to all states, and what calls pass on and give back."""

    def __init__(self, program):
        self._main = program.main
        self._places = {}
        self._codes = {}
        # By procedure: how many states there are, how many of them for each standing, and by cells how far the codes
        # of two states are from one another that differ by 1 in the number of this cell, with the size of the cell.
        self._many_states = {}
        self._many_owns = {}
        self._cells = {}
        # By procedure: how far the codes of two states are from one another that give back numbers that differ by 1.
        self._given = {}
        shared = list(program._shared.items())
        # Procedures with equal own cells have these in common.
        made = {}
        for procedure in program.procedures:
            name, own = procedure.called, procedure.own
            if own not in made:
                codes = Codes(program.all_standings, [size for cell, size in own])
                made[own] = (codes, _strides_of(shared + list(own)))
            codes, cells = made[own]
            self._places[name] = procedure.places
            self._codes[name] = codes
            self._many_states[name] = codes.many_states()
            self._many_owns[name] = codes.many_owns()
            self._cells[name] = cells
            self._given[name] = cells[own[0][0]][0] if own else 1
        self._stops = {}
        self._states_with = {}
        self._begins = {}
        self._behind = {}

    def codes_of(self, name):
        """The codes of a procedure."""
        return self._codes[name]

    def many_states(self, name):
        """How many states a procedure has."""
        return self._many_states[name]

    def places_in(self, name):
        """For each place of a procedure its statement, the place behind it and the places into its bodies."""
        return self._places[name]

    def stop(self, name, code):
        """What comes next at a now: "leave" and None, "call" and a pair (procedure, code of the begin), or "move" and
        a tuple of pairs (line or None, code) for all moves, in their order."""
        if (name, code) not in self._stops:
            self._stops[name, code] = self._found_stop(name, code)
        return self._stops[name, code]

    def given_back(self, name, call, called, end):
        """The code of the now behind a call, if the procedure that is called ends with this code."""
        place, state = divmod(call, self._many_states[name])
        statement, behind, _ = self._places[name][place]
        standing, given = divmod(end % self._many_states[called], self._many_owns[called])
        state = standing * self._many_owns[name] + state % self._many_owns[name]
        if statement[3] is not None:
            state = self._holding_then(name, state, statement[3], given // self._given[called])
        return behind * self._many_states[name] + state

    def given_back_all(self, name, call, called, ends):
        """The mask of the codes of the nows behind a call, for all ends of a mask."""
        found = self._behind.get((name, call, ends))
        if found is None:
            if len(self._behind) >= MOST_BEHIND:
                self._behind.clear()
            found = 0
            for end in bits_of(ends):
                found = found | 1 << self.given_back(name, call, called, end)
            self._behind[name, call, ends] = found
        return found

    def gives_back_all(self, name, place):
        """Whether the states behind the call at a place are just those that it ends with, as without own cells."""
        called, _, cell = self._places[name][place][0][1:]
        return cell is None and self._many_owns[name] == 1 and self._many_owns[called] == 1

    def states_back(self, name, call, called, ends):
        """The mask of the states behind a call, for all states of a mask with which it can end."""
        behind = self._places[name][call // self._many_states[name]][1]
        return self.given_back_all(name, call, called, ends) >> behind * self._many_states[name]

    def states_holding(self, name, cell):
        """For each number of a cell, the mask of the states in which it holds this number."""
        if (name, cell) not in self._states_with:
            stride, size = self._cells[name][cell]
            masks = [0] * size
            for state in range(self._many_states[name]):
                number = state // stride % size
                masks[number] = masks[number] | 1 << state
            self._states_with[name, cell] = masks
        return self._states_with[name, cell]

    def terms_any(self, name, cell):
        """For each number of a cell, the terms by which it gets this number: pairs of a mask of states, and of what the
        code of each of them is less than that of the state behind it."""
        stride, size = self._cells[name][cell]
        holding = self.states_holding(name, cell)
        return [[(holding[old], (number - old) * stride) for old in range(size)] for number in range(size)]

    def terms_set(self, name, statement):
        """The terms of a "set"."""
        cell, cells, table = statement[1:]
        rows = [(1 << self._many_states[name]) - 1]
        for one in cells:
            rows = [states & others for states in rows for others in self.states_holding(name, one)]
        numbers = self.terms_any(name, cell)
        return [(states & held, difference) for states, number in zip(rows, table)
                for held, difference in numbers[number] if states & held]

    def begins_of(self, name):
        """The ascending list of the codes of the begins of a procedure."""
        many = self._many_owns[name]
        # In a begin all own cells hold 0, but for the first one of a procedure that can be called.
        owns = [0] if name == self._main else list(range(0, many, self._given[name]))
        return [state + own for state in range(0, self._many_states[name], many) for own in owns]

    def begins_given(self, name, place):
        """The list of the codes of the begins that the call at a place gives, by the codes of states."""
        if (name, place) not in self._begins:
            statement = self._places[name][place][0]
            begins = [self._begin_given(name, state, statement) for state in range(self._many_states[name])]
            self._begins[name, place] = begins
        return self._begins[name, place]

    def _holding_then(self, name, state, cell, number):
        """The code of the state in which a cell holds a number, and all others hold what they held."""
        stride, size = self._cells[name][cell]
        return state + (number - state // stride % size) * stride

    def _found_stop(self, name, code):
        many = self._many_states[name]
        place, state = divmod(code, many)
        statement, behind, intos = self._places[name][place]
        if statement is None:
            return ("leave", None)
        kind = statement[0]
        if kind == "call":
            return ("call", (statement[1], self._begin_given(name, state, statement)))
        if kind == "set":
            return ("move", ((None, behind * many + self._state_set(name, state, statement)),))
        if kind in ("hide", "ask"):
            cell = statement[1] if kind == "hide" else statement[2]
            return ("move", tuple([(statement[:2] + (number,) if kind == "ask" else None,
                                    behind * many + self._holding_then(name, state, cell, number))
                                   for number in range(self._cells[name][cell][1])]))
        if kind == "say":
            told = () if statement[2] is None else (self._number(name, state, statement[2]),)
            return ("move", ((statement[:2] + told, behind * many + state),))
        if kind == "if":
            intos = intos[:1] if self._number(name, state, statement[1]) == statement[2] else intos[1:]
        elif kind == "often":
            intos = intos + (behind,)
        return ("move", tuple([(None, into * many + state) for into in intos]))

    def _number(self, name, state, cell):
        """The number that a cell holds."""
        stride, size = self._cells[name][cell]
        return state // stride % size

    def _state_set(self, name, state, statement):
        """The code of the state behind a "set"."""
        cell, cells, table = statement[1:]
        row = 0
        for one in cells:
            row = row * self._cells[name][one][1] + self._number(name, state, one)
        return self._holding_then(name, state, cell, table[row])

    def _begin_given(self, name, state, statement):
        """The code of the begin that a call with this state ahead of it gives."""
        called, cell = statement[1:3]
        number = 0 if cell is None else self._number(name, state, cell)
        return state // self._many_owns[name] * self._many_owns[called] + number * self._given[called]


def _strides_of(cells):
    """A dict from the names of some cells, given as pairs with their sizes, to pairs (stride, size)."""
    found = {}
    stride = 1
    for cell, size in cells[::-1]:
        found[cell] = (stride, size)
        stride = stride * size
    return found
