"""The search for a stuck run with as few moves as possible."""

from heapq import heappop, heappush

from showncalls.compare.stuck import live_of
from showncalls.know.codes import bits_of, mask_of
from showncalls.know.passes import passes_of
from showncalls.know.spelling import spelled
from showncalls.know.tracks import tracks_of
from showncalls.know.walks import walks_of
from showncalls.run.runs import MAX_MOVES


def shortest_stuck_run(program):
    """The pair of a start and of choices of a stuck run with as few moves as possible, or None if there is none with at
    most 1000 of them."""
    search = Search(program)
    while search.is_open():
        search.go_on()
    return search.shortest()


class Search:
    """It goes through calls: tuples (procedure, code of the begin, whether it is seen, mask of the ends that are live).

    An end of a call that is not seen is live if a line can come behind it. Of a seen call the mask is None: its own
    lines count, whatever is around it.
    """

    def __init__(self, program):
        self._program = program
        self._walks = walks_of(program)
        self._tracks = tracks_of(program)
        self._live = live_of(program)
        # By call: the call around it and the walk from the begin of that one to where it is called, or None.
        self._ways = {}
        self._queue = []
        self._pushed = 0
        # The number of moves, the call and the code of the now of the shortest stuck run so far.
        self._best = (MAX_MOVES + 1, None, None)
        codes = self._tracks.codes_of(program.main)
        for begin in program.begins(program.main):
            self._push(0, (program.main, codes.code_of_begin(begin), True, None), None)

    def is_open(self):
        """Whether a shorter stuck run may come."""
        return len(self._queue) > 0 and self._queue[0][0] < self._best[0]

    def go_on(self):
        """Look at the call that costs least."""
        cost, _, call, way = heappop(self._queue)
        if call in self._ways:
            return
        self._ways[call] = way
        source = (call[0], call[1], False)
        costs = self._walks.costs_from(source)
        for code in costs:
            many = cost + costs[code]
            if many < self._best[0]:
                if not self._is_live(call, code):
                    self._best = (many, call, code)
                else:
                    self._look_into(call, code, many)

    def shortest(self):
        """The start and the choices of the shortest stuck run, or None."""
        _, call, code = self._best
        if call is None:
            return None
        pieces = [((call[0], call[1], False), code)]
        while self._ways[call] is not None:
            call, walk = self._ways[call]
            # From where it is called on, the one move is to enter the call.
            pieces.extend([0, walk])
        start = self._tracks.codes_of(call[0]).state_of(call[1])[0]
        return (start, tuple(spelled(pieces[::-1], self._walks.parts())))

    def _push(self, cost, call, way):
        # The second number decides between equal costs, so that nothing else is compared.
        heappush(self._queue, (cost, self._pushed, call, way))
        self._pushed += 1

    def _look_into(self, call, code, many):
        inner = self._live.call_at(call[0], code, call[2])
        if inner is not None:
            ends = None if inner[2] else self._live_ends(call, code, inner)
            self._push(many + 1, inner + (ends,), (call, ((call[0], call[1], False), code)))

    def _live_ends(self, call, code, inner):
        """The mask of the ends of an inner call behind which a line can come."""
        called, begin = inner[:2]
        ends = bits_of(passes_of(self._program).ends_of(called, begin))
        return mask_of([end for end in ends
                        if self._is_live(call, self._tracks.given_back(call[0], code, called, end))])

    def _is_live(self, call, code):
        """Whether a line can come if this call is at this now."""
        name, _, seen, ends = call
        return self._live.is_live(name, seen, ends, code)
