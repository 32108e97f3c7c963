"""Where it goes on silently from the nows at which fronts stop, but no line is written."""

from showncalls.know.fronts import Fronts
from showncalls.know.passes import passes_of
from showncalls.know.tracks import tracks_of


def opens_of(program, seen):
    """The opens of a program for calls that are seen, or for calls in which all moves are silent, made once."""
    kept = "opens of seen calls" if seen else "opens of silent calls"
    if kept not in program._kept:
        program._kept[kept] = Opens(program, seen)
    return program._kept[kept]


class Opens:
    """A now is open if it is at an "often", or at a call that is passed silently."""

    def __init__(self, program, seen):
        self._program = program
        self._seen = seen
        self._tracks = tracks_of(program)
        self._passes = passes_of(program)
        self._fronts = Fronts(program, True) if seen else self._passes.fronts()
        self._codes_found = {}

    def fronts(self):
        """The fronts in such calls."""
        return self._fronts

    def codes_in(self, name):
        """The mask of the codes of all open nows of a procedure."""
        if name not in self._codes_found:
            many = self._tracks.many_states(name)
            mask = 0
            for place, (statement, behind, intos) in enumerate(self._tracks.places_in(name)):
                if statement is not None and self._is_open_at(statement):
                    mask = mask | (1 << many) - 1 << place * many
            self._codes_found[name] = mask
        return self._codes_found[name]

    def front_behind(self, name, code):
        """The front behind an open now."""
        kind, found = self._tracks.stop(name, code)
        if kind == "move":
            return self._fronts.behind_often(name, code)
        called, begin = found
        ends = self._passes.ends_of(called, begin)
        return self._fronts.of_mask(name, self._tracks.given_back_all(name, code, called, ends))

    def _is_open_at(self, statement):
        if statement[0] == "call":
            return not self._seen or self._program[statement[1]].quiet
        return statement[0] == "often"
