"""Stuck runs: main has not been left, and no more line can come.

Here the frames of a situation are a list of pairs (procedure, code of its now), the outermost one first.
"""

from heapq import heappop, heappush

from showncalls.base.checks import is_number
from showncalls.know.codes import mask_of
from showncalls.know.minds import mind_of
from showncalls.know.spelling import spelled
from showncalls.know.walks import walks_of
from showncalls.run.runs import MAX_MOVES


def frames_behind(program, start, choices):
    """The frames behind any number of moves, or None if they cannot be made one after another."""
    walks = walks_of(program)
    frames = [(program.main, _code_of_start(program, start))]
    for choice in choices:
        if not frames:
            return None
        name, code = frames[-1]
        kind, found = walks.stop(name, code)
        if not is_number(choice, len(found) if kind == "move" else 1):
            return None
        if kind == "call":
            frames.append(found)
            continue
        frames.pop()
        if kind == "move":
            frames.append((name, found[choice][1]))
        elif frames:
            outer, call = frames.pop()
            frames.append((outer, walks.given_back(outer, call, name, code)))
    return frames


def is_stuck_in(program, frames):
    """Whether from a situation with these frames no more line can come, though main has not been left."""
    if not frames:
        return False
    walks, mind = walks_of(program), mind_of(program)
    quiet = [at for at, (name, code) in enumerate(frames) if program[name].quiet]
    many_seen = quiet[0] if quiet else len(frames)
    # The codes at which the calls that are not seen, left one after the other, let the call around them go on.
    codes = [frames[-1][1]]
    for at in range(len(frames) - 1, many_seen - 1, -1):
        outer, call = frames[at - 1]
        name = frames[at][0]
        ends = [end for code in codes for end in walks.ends_from((name, code, False))]
        codes = sorted({walks.given_back(outer, call, name, end) for end in ends})
    return not any([mind.lines_from(frames[many_seen - 1][0], code) for code in codes])


def has_stuck_run(program):
    """Whether some run of a program is stuck."""
    if "has stuck run" not in program._kept:
        program._kept["has stuck run"] = _found_stuck(program)
    return program._kept["has stuck run"]


def shortest_stuck_run(program):
    """The pair of a start and of choices of a stuck run with as few moves as possible, or None if there is none with at
    most 1000 of them."""
    search = Search(program)
    while search.is_open():
        search.go_on()
    return search.shortest()


def _code_of_start(program, standing):
    own = tuple([0 for pair in program[program.main].own])
    return walks_of(program).codes_of(program.main).code_of((0, standing, own))


def _found_stuck(program):
    """Whether some reached now of a seen call comes to no line, or one of another call to no end of this call.

    If neither is so, then each call that is not seen can be left, and a line comes at last.
    """
    walks, mind = walks_of(program), mind_of(program)
    waiting = [(program.main, begin, True) for begin in mind_of(program).main_context()[1]]
    met = {source: True for source in waiting}
    while waiting:
        name, begin, seen = waiting.pop()
        for code in walks.costs_from((name, begin, False)):
            if not (mind.lines_from(name, code) if seen else walks.ends_from((name, code, False))):
                return True
            kind, found = walks.stop(name, code)
            if kind == "call":
                inner = (found[0], found[1], seen and not program[found[0]].quiet)
                if inner not in met:
                    met[inner] = True
                    waiting.append(inner)
    return False


class Search:
    """The search for a stuck run with as few moves as possible.

    It goes through calls: tuples (procedure, code of the begin, whether it is seen, mask of the ends that are live). An
    end of a call that is not seen is live if a line can come behind it. Of a seen call the mask is None: its own lines
    count, whatever is around it.
    """

    def __init__(self, program):
        self._program = program
        self._walks = walks_of(program)
        self._mind = mind_of(program)
        # By call: the call around it and the walk from the begin of that one to where it is called, or None.
        self._ways = {}
        self._queue = []
        self._pushed = 0
        # The number of moves, the call and the code of the now of the shortest stuck run so far.
        self._best = (MAX_MOVES + 1, None, None)
        for begin in self._mind.main_context()[1]:
            self._push(0, (program.main, begin, True, None), None)

    def is_open(self):
        """Whether a shorter stuck run may come."""
        return len(self._queue) > 0 and self._queue[0][0] < self._best[0]

    def go_on(self):
        """Look at the call that costs least."""
        cost, _, call, way = heappop(self._queue)
        if call in self._ways:
            return
        self._ways[call] = way
        source = (call[0], call[1], False)
        costs = self._walks.costs_from(source)
        for code in costs:
            many = cost + costs[code]
            if many < self._best[0]:
                if not self._is_live(call, code):
                    self._best = (many, call, code)
                else:
                    self._look_into(call, code, many)

    def shortest(self):
        """The start and the choices of the shortest stuck run, or None."""
        _, call, code = self._best
        if call is None:
            return None
        pieces = [((call[0], call[1], False), code)]
        while self._ways[call] is not None:
            call, walk = self._ways[call]
            # From where it is called on, the one move is to enter the call.
            pieces.extend([0, walk])
        start = self._walks.codes_of(call[0]).now_of(call[1])[1]
        return (start, tuple(spelled(pieces[::-1], self._walks.parts())))

    def _push(self, cost, call, way):
        # The second number decides between equal costs, so that nothing else is compared.
        heappush(self._queue, (cost, self._pushed, call, way))
        self._pushed += 1

    def _look_into(self, call, code, many):
        kind, found = self._walks.stop(call[0], code)
        if kind == "call":
            called, begin = found
            seen = call[2] and not self._program[called].quiet
            live = None if seen else self._live_ends(call, code, called, begin)
            self._push(many + 1, (called, begin, seen, live), (call, ((call[0], call[1], False), code)))

    def _live_ends(self, call, code, called, begin):
        """The mask of the ends of an inner call behind which a line can come."""
        ends = self._walks.ends_from((called, begin, False))
        return mask_of([end for end in ends
                        if self._is_live(call, self._walks.given_back(call[0], code, called, end))])

    def _is_live(self, call, code):
        """Whether a line can come if this call is at this now."""
        name, _, seen, live = call
        if seen:
            return len(self._mind.lines_from(name, code)) > 0
        return any([live >> end & 1 == 1 for end in self._walks.ends_from((name, code, False))])
