"""The lines that seen calls can write next, behind silent moves, for all states at once.

What moves do to states is told by terms: pairs (states, difference) of a mask of states ahead of the moves, and of what
the code of each of these states is less than that of the state behind them.
"""

from showncalls.know.codes import bits_of, mask_of
from showncalls.know.passes import passes_of
from showncalls.know.tracks import tracks_of


def lines_of(program):
    """The lines of a program, which are found once."""
    if "lines" not in program._kept:
        program._kept["lines"] = Lines(program)
    return program._kept["lines"]


class Lines:
    """The lines that can come next at the places of the procedures that are not quiet, as far as they are asked for."""

    def __init__(self, program):
        self._program = program
        self._tracks = tracks_of(program)
        self._passes = passes_of(program)
        self._found = {}
        self._found_at = {}
        # By place: all places to which moves from it lead silently, whatever the state is, without changing it.
        self._around = {}
        self._moves = {}

    def from_place(self, name, place):
        """The list of triples (line, place behind it, terms) of all lines that can come next at a place, ascending. At
        an enter, this place is that of the call, and at a leave it is the end."""
        if (name, place) not in self._found:
            self._found[name, place] = self._searched(name, place)
        return self._found[name, place]

    def at_code(self, name, code):
        """The list of pairs of a line that can come next at a now, and of the mask of the codes behind it."""
        if (name, code) not in self._found_at:
            self._found_at[name, code] = self._searched_at(name, code)
        return self._found_at[name, code]

    def _searched_at(self, name, code):
        many = self._tracks.many_states(name)
        place, state = divmod(code, many)
        found = []
        for line, behind, terms in self.from_place(name, place):
            codes = [behind * many + state + difference for states, difference in terms if states >> state & 1]
            if codes:
                found.append((line, mask_of(codes)))
        return found

    def _searched(self, name, place):
        moves = self._moves_at(name, place)
        if None not in [line for line, behind, terms in moves]:
            self._around[name, place] = {}
            return moves
        # By pairs of a place and a difference: the states with which these have been reached so far.
        met = {}
        start = (name, place)
        every = (1 << self._tracks.many_states(name)) - 1
        waiting = [(place, 0, every)]
        # By pairs of a line and the place behind it: dicts from differences to states.
        found = {}
        while waiting:
            place, ahead, states = waiting.pop()
            known = met.get((place, ahead), 0)
            states = states ^ states & known
            if not states:
                continue
            met[place, ahead] = known | states
            # From a place that has been searched from before, all that follows is known.
            moves = self._found.get((name, place))
            if moves is None:
                moves = self._moves_at(name, place)
            elif states == every and ahead == 0 and start in self._around[name, place]:
                # Both lead to one another.
                self._around[start] = self._around[name, place]
                return moves
            for line, behind, terms in moves:
                for wanted, difference in terms:
                    going_on = states & (wanted if ahead == 0 else _moved(wanted, -ahead))
                    if going_on and line is None:
                        waiting.append((behind, ahead + difference, going_on))
                    elif going_on:
                        _note(found.setdefault((line, behind), {}), ahead + difference, going_on)
        self._around[start] = {(name, place): True for place, ahead in met if ahead == 0 and met[place, ahead] == every}
        return [(line, behind, _terms_of(found[line, behind])) for line, behind in sorted(found)]

    def _moves_at(self, name, place):
        """The list of triples (line or None, place behind it, terms) of the moves at a place."""
        if (name, place) not in self._moves:
            self._moves[name, place] = self._found_moves(name, place)
        return self._moves[name, place]

    def _found_moves(self, name, place):
        statement, behind, intos = self._tracks.places_in(name)[place]
        every = (1 << self._tracks.many_states(name)) - 1
        if statement is None:
            return [(("leave", name), place, [(every, 0)])]
        kind = statement[0]
        if kind == "call":
            if self._program[statement[1]].quiet:
                return [(None, behind, self._terms_passed(name, place, statement[1]))]
            return [(("enter", statement[1]), place, [(every, 0)])]
        if kind == "set":
            return [(None, behind, self._tracks.terms_set(name, statement))]
        if kind in ("hide", "ask"):
            found = self._tracks.terms_any(name, statement[1] if kind == "hide" else statement[2])
            lines = [statement[:2] + (number,) if kind == "ask" else None for number in range(len(found))]
            return [(line, behind, terms) for line, terms in zip(lines, found)]
        if kind == "say":
            if statement[2] is None:
                return [(statement[:2], behind, [(every, 0)])]
            holding = self._tracks.states_holding(name, statement[2])
            return [(statement[:2] + (number,), behind, [(states, 0)]) for number, states in enumerate(holding)]
        if kind == "if":
            states = self._tracks.states_holding(name, statement[1])[statement[2]]
            return [(None, intos[0], [(states, 0)]), (None, intos[1], [(every ^ states, 0)])]
        if kind == "often":
            intos = intos + (behind,)
        return [(None, into, [(every, 0)]) for into in intos]

    def _terms_passed(self, name, place, called):
        """The terms of a call that is passed silently."""
        first = place * self._tracks.many_states(name)
        found = {}
        for state, begin in enumerate(self._tracks.begins_given(name, place)):
            ends = self._passes.ends_of(called, begin)
            for behind in bits_of(self._tracks.states_back(name, first + state, called, ends)):
                _note(found, behind - state, 1 << state)
        return _terms_of(found)


def _moved(states, difference):
    """The states behind some states whose codes are less by a difference, which may be below 0."""
    return states << difference if difference >= 0 else states >> -difference


def _note(found, difference, states):
    found[difference] = found.get(difference, 0) | states


def _terms_of(found):
    return [(found[difference], difference) for difference in found]
