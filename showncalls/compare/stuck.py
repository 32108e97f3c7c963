"""Stuck runs: main has not been left, and no more line can come.

Here the frames of a situation are a list of pairs (procedure, code of its now), the outermost one first.
"""

from showncalls.base.checks import is_number
from showncalls.know.minds import mind_of
from showncalls.know.walks import walks_of


def frames_behind(program, start, choices):
    """The frames behind any number of moves, or None if they cannot be made one after another."""
    walks = walks_of(program)
    frames = [(program.main, _code_of_start(program, start))]
    for choice in choices:
        if not frames:
            return None
        name, code = frames[-1]
        kind, found = walks.stop(name, code)
        if not is_number(choice, len(found) if kind == "move" else 1):
            return None
        if kind == "call":
            frames.append(found)
            continue
        frames.pop()
        if kind == "move":
            frames.append((name, found[choice][1]))
        elif frames:
            outer, call = frames.pop()
            frames.append((outer, walks.given_back(outer, call, name, code)))
    return frames


def is_stuck_in(program, frames):
    """Whether from a situation with these frames no more line can come, though main has not been left."""
    if not frames:
        return False
    walks, mind = walks_of(program), mind_of(program)
    quiet = [at for at, (name, code) in enumerate(frames) if program[name].quiet]
    many_seen = quiet[0] if quiet else len(frames)
    # The codes at which the calls that are not seen, left one after the other, let the call around them go on.
    codes = [frames[-1][1]]
    for at in range(len(frames) - 1, many_seen - 1, -1):
        outer, call = frames[at - 1]
        name = frames[at][0]
        ends = [end for code in codes for end in walks.ends_from((name, code, False))]
        codes = sorted({walks.given_back(outer, call, name, end) for end in ends})
    return not any([mind.lines_from(frames[many_seen - 1][0], code) for code in codes])


def _code_of_start(program, standing):
    own = tuple([0 for pair in program[program.main].own])
    return walks_of(program).codes_of(program.main).code_of((0, standing, own))


def live_of(program):
    """Where in a program lines can still come, found once."""
    if "live" not in program._kept:
        program._kept["live"] = Live(program)
    return program._kept["live"]


class Live:
    """The nows from which it goes on: in a seen call, silently to a line; in any other call, to its end.

    No run is stuck if it goes on from all nows that calls come to: then each call that is not seen can be left, and a
    line comes at last.
    """

    def __init__(self, program):
        self._program = program
        self._walks = walks_of(program)
        # By pairs of a procedure and of whether its call is seen: the codes of all nows that such calls come to.
        self._come_to = {}
        self._known_live = {}
        self._come_to_all()

    def has_stuck_run(self):
        """Whether some run of the program is stuck."""
        for name, seen in self._come_to:
            live = self.codes_live(name, seen, None)
            if not all([code in live for code in self._come_to[name, seen]]):
                return True
        return False

    def codes_live(self, name, seen, ends):
        """A dict with the codes of the nows of a procedure from which it goes on: in a call that is not seen, to one of
        the ends of which a mask is given, or to any end if it is None."""
        if (name, seen, ends) not in self._known_live:
            self._known_live[name, seen, ends] = self._searched_live(name, seen, ends)
        return self._known_live[name, seen, ends]

    def _come_to_all(self):
        waiting = [(self._program.main, begin, True) for begin in mind_of(self._program).main_context()[1]]
        met = {call: True for call in waiting}
        while waiting:
            name, begin, seen = waiting.pop()
            codes = self._come_to.setdefault((name, seen), {})
            for code in self._walks.costs_from((name, begin, False)):
                codes[code] = True
                inner = self.call_at(name, code, seen)
                if inner is not None and inner not in met:
                    met[inner] = True
                    waiting.append(inner)

    def call_at(self, name, code, seen):
        """The call that is at a now (its procedure, the code of its begin, whether it is seen), or None."""
        kind, found = self._walks.stop(name, code)
        if kind != "call":
            return None
        return (found[0], found[1], seen and not self._program[found[0]].quiet)

    def _searched_live(self, name, seen, ends):
        """The codes from which single steps lead to where it goes on, found from there backwards."""
        ahead = {}
        waiting = []
        for code in self._come_to[name, seen]:
            if self._goes_on_at(name, code, seen, ends):
                waiting.append(code)
            for behind in self._codes_behind(name, code, seen):
                ahead.setdefault(behind, []).append(code)
        live = {code: True for code in waiting}
        while waiting:
            for code in ahead.get(waiting.pop(), []):
                if code not in live:
                    live[code] = True
                    waiting.append(code)
        return live

    def _goes_on_at(self, name, code, seen, ends):
        """Whether at this very now there is a line, or an end that is wanted."""
        kind, found = self._walks.stop(name, code)
        if not seen:
            return kind == "leave" and (ends is None or ends >> code & 1 == 1)
        if kind == "call":
            return not self._program[found[0]].quiet
        return kind == "leave" or any([line is not None for line, behind in found])

    def _codes_behind(self, name, code, seen):
        """The list of the codes behind a move, or behind a call that is passed silently."""
        kind, found = self._walks.stop(name, code)
        if kind == "move":
            return [behind for line, behind in found if line is None or not seen]
        inner = self.call_at(name, code, seen)
        if inner is None or inner[2]:
            return []
        called, begin = found
        ends = self._walks.ends_from((called, begin, False))
        return [self._walks.given_back(name, code, called, end) for end in ends]
