"""Where silent moves lead within a frame, for many nows at once, on masks of codes.

Bodies lie within one another, so that only an "often" leads back. A front is the mask of the first codes at which moves
from a now stop, since these are at an "often", at a call, at the end, or at a line that is written.
"""

from showncalls.know.codes import bits_of
from showncalls.know.tracks import tracks_of


class Fronts:
    """The fronts of a program, in calls that are seen, or in calls in which all moves are silent."""

    def __init__(self, program, seen):
        self._tracks = tracks_of(program)
        # What stops in each case.
        self._stopping = ("often", "call", "say", "ask") if seen else ("often", "call")
        self._found = {}

    def at_place(self, name, place):
        """The list of the fronts of all nows at a place, by the codes of their states."""
        if (name, place) not in self._found:
            self._found[name, place] = self._searched(name, place)
        return self._found[name, place]

    def at_code(self, name, code):
        """The front of a now."""
        place, state = divmod(code, self._tracks.many_states(name))
        return self.at_place(name, place)[state]

    def of_mask(self, name, mask):
        """The front of several nows."""
        found = 0
        for code in bits_of(mask):
            found = found | self.at_code(name, code)
        return found

    def behind_often(self, name, code):
        """The front behind a now that is at an "often"."""
        place, state = divmod(code, self._tracks.many_states(name))
        _, behind, intos = self._tracks.places_in(name)[place]
        return self.at_place(name, intos[0])[state] | self.at_place(name, behind)[state]

    def _searched(self, name, place):
        statement, behind, intos = self._tracks.places_in(name)[place]
        many = self._tracks.many_states(name)
        if statement is None or statement[0] in self._stopping:
            return [1 << code for code in range(place * many, (place + 1) * many)]
        kind = statement[0]
        if kind in ("if", "either"):
            one, other = self.at_place(name, intos[0]), self.at_place(name, intos[1])
            if kind == "either":
                return [mask | other_mask for mask, other_mask in zip(one, other)]
            held = self._tracks.states_holding(name, statement[1])[statement[2]]
            return [one[state] if held >> state & 1 else other[state] for state in range(many)]
        ahead = self.at_place(name, behind)
        if kind == "say":
            return ahead
        fronts = [0] * many
        for states, difference in self._terms(name, statement):
            for state in bits_of(states):
                fronts[state] = fronts[state] | ahead[state + difference]
        return fronts

    def _terms(self, name, statement):
        """The terms of a "set", a "hide" or an "ask"."""
        if statement[0] == "set":
            return self._tracks.terms_set(name, statement)
        cell = statement[1] if statement[0] == "hide" else statement[2]
        return [term for terms in self._tracks.terms_any(name, cell) for term in terms]
