"""Stuck runs: main has not been left, and no more line can come.

Here the frames of a situation are a list of pairs (procedure, code of its now), the outermost one first.
"""

from showncalls.base.checks import is_number
from showncalls.know.codes import bits_of
from showncalls.know.lines import lines_of
from showncalls.know.opens import opens_of
from showncalls.know.passes import passes_of
from showncalls.know.tracks import tracks_of


def frames_behind(program, start, choices):
    """The frames behind any number of moves, or None if they cannot be made one after another."""
    tracks = tracks_of(program)
    own = tuple([0 for pair in program[program.main].own])
    frames = [(program.main, tracks.codes_of(program.main).code_of((0, start, own)))]
    for choice in choices:
        if not frames:
            return None
        name, code = frames[-1]
        kind, found = tracks.stop(name, code)
        if not is_number(choice, len(found) if kind == "move" else 1):
            return None
        if kind == "call":
            frames.append(found)
            continue
        frames.pop()
        if kind == "move":
            frames.append((name, found[choice][1]))
        elif frames:
            outer, call = frames.pop()
            frames.append((outer, tracks.given_back(outer, call, name, code)))
    return frames


def is_stuck_in(program, frames):
    """Whether from a situation with these frames no more line can come, though main has not been left."""
    if not frames:
        return False
    tracks, passes, lines = tracks_of(program), passes_of(program), lines_of(program)
    quiet = [at for at, (name, code) in enumerate(frames) if program[name].quiet]
    many_seen = quiet[0] if quiet else len(frames)
    # The codes at which the calls that are not seen, left one after the other, let the call around them go on.
    codes = [frames[-1][1]]
    for at in range(len(frames) - 1, many_seen - 1, -1):
        outer, call = frames[at - 1]
        name = frames[at][0]
        ends = 0
        for code in codes:
            ends = ends | passes.ends_of(name, code)
        codes = bits_of(tracks.given_back_all(outer, call, name, ends))
    return not any([lines.at_code(frames[many_seen - 1][0], code) for code in codes])


def live_of(program):
    """Where in a program lines can still come, found once."""
    if "live" not in program._kept:
        program._kept["live"] = Live(program)
    return program._kept["live"]


class Live:
    """The nows from which it goes on: in a seen call, silently to a line; in any other call, to its end.

    No run is stuck if it goes on from all nows that calls come to: then each call that is not seen can be left, and a
    line comes at last. It is enough to ask this of open nows, since from each other one moves lead to an open one, or
    to a line or an end.
    """

    def __init__(self, program):
        self._program = program
        self._tracks = tracks_of(program)
        # By pairs of a procedure and of whether its call is seen: the mask of all open nows that such calls come to.
        self._come_to = {}
        self._known_live = {}
        self._come_to_all()

    def has_stuck_run(self):
        """Whether some run of the program is stuck."""
        for name, seen in self._come_to:
            come_to = self._come_to[name, seen]
            if come_to ^ come_to & self._live_codes(name, seen, None):
                return True
        return False

    def is_live(self, name, seen, ends, code):
        """Whether it goes on from a now to which such a call comes: in a call that is not seen, to one of the ends of
        which a mask is given, or to any end if it is None."""
        front = opens_of(self._program, seen).fronts().at_code(name, code)
        return front & self._live_codes(name, seen, ends) != 0

    def call_at(self, name, code, seen):
        """The call that is at a now (its procedure, the code of its begin, whether it is seen), or None."""
        kind, found = self._tracks.stop(name, code)
        if kind != "call":
            return None
        return (found[0], found[1], seen and not self._program[found[0]].quiet)

    def _come_to_all(self):
        passes = passes_of(self._program)
        main = self._program.main
        codes = self._tracks.codes_of(main)
        waiting = [(main, codes.code_of_begin(begin), True) for begin in self._program.begins(main)]
        met = {call: True for call in waiting}
        while waiting:
            name, begin, seen = waiting.pop()
            open_codes = passes.met_by(name, begin) & opens_of(self._program, False).codes_in(name)
            inner_calls = [self.call_at(name, code, seen) for code in bits_of(open_codes)]
            for inner in inner_calls:
                if inner is not None and inner not in met:
                    met[inner] = True
                    waiting.append(inner)
            # In a call that is seen, a call that is seen, too, is a line.
            open_codes = open_codes & opens_of(self._program, seen).codes_in(name)
            self._come_to[name, seen] = self._come_to.get((name, seen), 0) | open_codes

    def _live_codes(self, name, seen, ends):
        """The mask of the codes of the live ones of all nows at which fronts stop."""
        if (name, seen, ends) not in self._known_live:
            self._known_live[name, seen, ends] = self._searched_live(name, seen, ends)
        return self._known_live[name, seen, ends]

    def _searched_live(self, name, seen, ends):
        opens = opens_of(self._program, seen)
        fronts = {code: opens.front_behind(name, code) for code in bits_of(self._come_to[name, seen])}
        live = ends
        if ends is None:
            many = self._tracks.many_states(name) * len(self._tracks.places_in(name))
            live = ((1 << many) - 1) ^ opens.codes_in(name)
        # From these on backwards, by rounds.
        reached = True
        while reached:
            reached = [code for code in fronts if fronts[code] & live]
            for code in reached:
                live = live | 1 << code
                del fronts[code]
        return live
