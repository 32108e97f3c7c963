"""How calls can be passed silently: with which ends, and what they come to."""

from showncalls.know.codes import bits_of
from showncalls.know.fronts import Fronts
from showncalls.know.tracks import tracks_of


def passes_of(program):
    """The passes of a program, which are made once."""
    if "passes" not in program._kept:
        program._kept["passes"] = Passes(program)
    return program._kept["passes"]


class Passes:
    """All that calls come to and end with, if all their moves are silent, as far as it is asked for.

    A call is a pair (procedure, code of the begin).
    """

    def __init__(self, program):
        self._tracks = tracks_of(program)
        self._fronts = Fronts(program, False)
        # By call: masks of the codes of those nows at an "often", at a call or at the end that it comes to, of those
        # from which it has not gone on so far, and of the ends; and the calls, with the code of the now there, that go
        # on behind it.
        self._met = {}
        self._new = {}
        self._ends = {}
        self._callers = {}
        self._waiting = []
        # By the now at a call, and the ends of this call.
        self._fronts_behind = {}

    def fronts(self):
        """The fronts of calls in which all moves are silent."""
        return self._fronts

    def ends_of(self, called, begin):
        """The mask of the codes of all ends with which a call can be left."""
        self._look_at(called, begin)
        return self._ends[called, begin]

    def met_by(self, called, begin):
        """The mask of the codes of all nows at an "often", at a call or at the end that a call comes to."""
        self._look_at(called, begin)
        return self._met[called, begin]

    def _look_at(self, called, begin):
        self._set_out((called, begin))
        while self._waiting:
            call = self._waiting.pop()
            new = self._new[call]
            self._new[call] = 0
            self._go_on(call, new)

    def _set_out(self, call):
        if call not in self._met:
            self._met[call] = 0
            self._new[call] = 0
            self._ends[call] = 0
            self._callers[call] = []
            self._reach(call, self._fronts.at_code(call[0], call[1]))

    def _reach(self, call, front):
        new = front ^ front & self._met[call]
        if new:
            self._met[call] = self._met[call] | new
            if not self._new[call]:
                self._waiting.append(call)
            self._new[call] = self._new[call] | new

    def _go_on(self, call, new):
        """Go on from some nows that a call comes to."""
        name = call[0]
        many, last = self._tracks.many_states(name), len(self._tracks.places_in(name)) - 1
        ends = new >> last * many << last * many
        for code in bits_of(new ^ ends):
            kind, inner = self._tracks.stop(name, code)
            if kind == "move":
                self._reach(call, self._fronts.behind_often(name, code))
            else:
                self._set_out(inner)
                self._callers[inner].append((call, code))
                self._reach(call, self._front_behind(name, code, inner[0], self._ends[inner]))
        if ends:
            self._ends[call] = self._ends[call] | ends
            for outer, code in list(self._callers[call]):
                self._reach(outer, self._front_behind(outer[0], code, name, ends))

    def _front_behind(self, name, code, called, ends):
        """The front behind an inner call that is left with any of these ends."""
        front = self._fronts_behind.get((name, code, ends))
        if front is None:
            behind = self._tracks.given_back_all(name, code, called, ends)
            front = self._fronts_behind[name, code, ends] = self._fronts.of_mask(name, behind)
        return front
