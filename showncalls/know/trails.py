"""The shortest runs with a log."""

from showncalls.know.spelling import spelled
from showncalls.know.tracks import tracks_of
from showncalls.know.walks import walks_of
from showncalls.run.runs import MAX_MOVES


def shortest_run(program, log, standing):
    """The start and the choices of a shortest shown run with a log of the program that ends with a standing that can
    stand there, or None if each one has more than 1000 moves."""
    # Each line but the first one is written by a move.
    if len(log) - 1 > MAX_MOVES:
        return None
    trail = Trail(program)
    for line in log[1:]:
        trail.follow(line)
    return trail.run_to(standing)


class Trail:
    """What runs with a log cost, line by line; those with more than 1000 moves are left aside.

    Within the innermost seen call, a run is at a pair (code of the begin, code of the now), and its cost counts from
    this begin. Behind each line there is a layer: a dict from pairs to (cost, way). Ahead of each one there are its
    spots: a dict from the pairs at which it can be written to (cost, code of the now behind the line before). A way is
    a triple: the spot, the index of the move and, behind a leave, the spot of the call; behind an enter it is None.
    """

    def __init__(self, program):
        self._walks = walks_of(program)
        self._tracks = tracks_of(program)
        codes = self._tracks.codes_of(program.main)
        begins = [codes.code_of((0,) + begin) for begin in program.begins(program.main)]
        self._lines = [("enter", program.main)]
        self._names = [program.main]
        self._layers = [{(begin, begin): (0, None) for begin in begins}]
        self._spots = [{}]
        # For each enter line: what it costs to begin with a begin, and the spot of the call.
        self._outers = [{begin: (0, None) for begin in begins}]
        # The indices of the enter lines of the calls that have not been left.
        self._entered_at = [0]

    def follow(self, line):
        """Go on with one more line."""
        name = self._names[-1]
        spots = self._found_spots(line)
        self._spots.append(spots)
        outer = {}
        if line[0] == "enter":
            layer, outer = self._behind_enter(spots)
            self._entered_at.append(len(self._lines))
            name = line[1]
        elif line[0] == "leave" and len(self._entered_at) > 1:
            entered_at = self._entered_at.pop()
            name = self._names[entered_at - 1]
            layer = self._behind_leave(spots, name, self._spots[entered_at])
        elif line[0] == "leave":
            layer = {spot: (spots[spot][0] + 1, (spot, 0, None)) for spot in spots}
        else:
            layer = self._behind_word(spots, line)
        self._lines.append(line)
        self._names.append(name)
        self._layers.append(layer)
        self._outers.append(outer)

    def run_to(self, standing):
        """The start and the choices of a shortest run that ends with this standing, or None."""
        codes = self._tracks.codes_of(self._names[-1])
        layer, outer = self._layers[-1], self._outers[self._entered_at[-1]]
        found = [(outer[pair[0]][0] + layer[pair][0], pair) for pair in layer
                 if codes.now_of(pair[1])[1] == standing]
        if not found or min(found)[0] > MAX_MOVES:
            return None
        begin, pieces = self._traced_back(min(found)[1])
        start = self._tracks.codes_of(self._names[0]).now_of(begin)[1]
        return (start, tuple(spelled(pieces, self._walks.parts())))

    def _found_spots(self, line):
        """The spots of a line that comes next."""
        name, layer = self._names[-1], self._layers[-1]
        spots = {}
        for begin, code in layer:
            costs = self._walks.costs_from((name, code, True))
            for spot in costs:
                if self._writes(name, spot, line):
                    _keep(spots, (begin, spot), layer[begin, code][0] + costs[spot], code)
        return spots

    def _writes(self, name, code, line):
        """Whether a move at a now writes a line."""
        kind, found = self._tracks.stop(name, code)
        if kind == "move":
            return line in [told for told, behind in found]
        return line == ("leave", name) if kind == "leave" else line == ("enter", found[0])

    def _behind_word(self, spots, line):
        """The layer behind a line that is said or asked."""
        layer = {}
        for begin, spot in spots:
            for index, (told, behind) in enumerate(self._tracks.stop(self._names[-1], spot)[1]):
                if told == line:
                    _keep(layer, (begin, behind), spots[begin, spot][0] + 1, ((begin, spot), index, None))
        return layer

    def _behind_enter(self, spots):
        """The layer behind an enter line, and what it costs to begin with each begin."""
        outer = {}
        ahead = self._outers[self._entered_at[-1]]
        for begin, spot in spots:
            inner = self._tracks.stop(self._names[-1], spot)[1][1]
            _keep(outer, inner, ahead[begin][0] + spots[begin, spot][0] + 1, (begin, spot))
        return {(inner, inner): (0, None) for inner in outer}, outer

    def _behind_leave(self, spots, name, calls):
        """The layer behind a leave line, back in a procedure, where the spots of the enter line were these calls."""
        last_spots = {}
        for begin, spot in spots:
            last_spots.setdefault(begin, []).append(spot)
        layer = {}
        for begin, call in calls:
            called, inner = self._tracks.stop(name, call)[1]
            for last in last_spots.get(inner, []):
                cost = calls[begin, call][0] + spots[inner, last][0] + 2
                behind = self._tracks.given_back(name, call, called, last)
                _keep(layer, (begin, behind), cost, ((inner, last), 0, (begin, call)))
        return layer

    def _traced_back(self, pair):
        """The code of the begin of main, and the pieces of a shortest run to a pair of the last layer."""
        pieces = []
        calls = []
        for at in range(len(self._lines) - 1, 0, -1):
            spot, index, call = self._way(at, pair, calls)
            if call is not None:
                calls.append(call)
            ahead = self._spots[at][spot][1]
            pieces.append(index)
            pieces.append(((self._names[at - 1], ahead, True), spot[1]))
            pair = (spot[0], ahead)
        return pair[0], pieces[::-1]

    def _way(self, at, pair, calls):
        """The way by which a line leads to a pair, if the calls that are left behind this line began at these spots."""
        way = self._layers[at][pair][1]
        if way is not None:
            return way
        # An enter line: its call is left later on, or it is not left at all.
        return (calls.pop() if calls else self._outers[at][pair[0]][1], 0, None)


def _keep(kept, key, cost, way):
    """Keep the cost of a key, and its way, if it is not too much and less than what is kept."""
    if cost <= MAX_MOVES and (key not in kept or cost < kept[key][0]):
        kept[key] = (cost, way)
