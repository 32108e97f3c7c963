"""Silent walks within a frame, on the codes of nows."""

from heapq import heappop, heappush

from showncalls.know.tracks import tracks_of

MOST_SETTLED = 1000000


def walks_of(program):
    """The walks of a program, which are made once, and anew if they have become too great."""
    if "walks" not in program._kept or program._kept["walks"].is_great():
        program._kept["walks"] = Walks(program)
    return program._kept["walks"]


class Walks:
    """The shortest silent walks of a program, as far as they are asked for.

    A walk has a source, a triple (procedure, code of a now, whether the call is seen): if it is not, all its moves are
    silent. A call that can be passed silently is walked through in one step, which has a walk of the call inside it.
    """

    def __init__(self, program):
        self._program = program
        self._tracks = tracks_of(program)
        # By source: the least number of moves to each code that is reached, and the codes of the ends among these.
        self._costs = {}
        self._found_ends = {}
        # By source: the least pair of a number of moves and of parts for each code that has been found so far.
        self._bounds = {}
        # By source: the walks, pairs of a source and a code, that go on behind a call which they have come to.
        self._callers = {}
        # By pairs of a source and a code: the parts of the walk, which are other walks and the indices of moves.
        self._parts = {}
        self._queue = []
        self._settled = 0

    def is_great(self):
        """Whether so many walks are kept that it is better to start anew."""
        return self._settled > MOST_SETTLED

    def parts(self):
        """A dict from all walks that have been found to their parts."""
        return self._parts

    def costs_from(self, source):
        """A dict from the codes of all nows to which silent moves lead to the least number of these moves."""
        self._set_out(source)
        # Costs count from the source of their own walk. A new walk starts in the middle with low costs, which come
        # first, before any walk that goes on behind it; so what comes out of the queue first costs least.
        while self._queue:
            self._settle(heappop(self._queue))
        return self._costs[source]

    def _is_passed(self, name, called):
        """Whether a seen call of one procedure passes calls of another one silently."""
        # A quiet procedure may be asked for as if it were not quiet; then its calls of itself are seen, too.
        return self._program[called].quiet and called != name

    def _set_out(self, source):
        if source not in self._costs:
            self._costs[source] = {}
            self._bounds[source] = {}
            self._found_ends[source] = []
            self._callers[source] = []
            self._reach(source, source[1], 0, ())

    def _reach(self, source, code, cost, parts):
        bounds = self._bounds[source]
        # Of equal costs the least parts count, so that it does not matter what has been asked for before.
        if code not in bounds or (cost, parts) < bounds[code]:
            bounds[code] = (cost, parts)
            heappush(self._queue, (cost, source, code, parts))

    def _settle(self, entry):
        cost, source, code, parts = entry
        if code in self._costs[source]:
            return
        self._settled += 1
        self._costs[source][code] = cost
        self._parts[source, code] = parts
        name, _, seen = source
        kind, found = self._tracks.stop(name, code)
        if kind == "leave":
            self._end(source, code)
        elif kind == "call":
            called, begin = found
            if not seen or self._is_passed(name, called):
                self._call(source, code, (called, begin, False))
        else:
            for index, (line, behind) in enumerate(found):
                if line is None or not seen:
                    self._reach(source, behind, cost + 1, ((source, code), index))

    def _call(self, source, code, inner):
        self._set_out(inner)
        self._callers[inner].append((source, code))
        for end in list(self._found_ends[inner]):
            self._pass(source, code, inner, end)

    def _end(self, source, code):
        self._found_ends[source].append(code)
        for outer, call in list(self._callers[source]):
            self._pass(outer, call, source, code)

    def _pass(self, source, call, inner, end):
        """Go on behind a call that is passed silently: enter, walk to this end, leave."""
        behind = self._tracks.given_back(source[0], call, inner[0], end)
        cost = self._costs[source][call] + self._costs[inner][end] + 2
        self._reach(source, behind, cost, ((source, call), 0, (inner, end), 0))
