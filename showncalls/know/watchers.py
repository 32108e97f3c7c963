"""Watchers, which go along a log line by line."""

from showncalls.base.checks import is_number
from showncalls.base.shapes import check_fact, check_program
from showncalls.base.words import is_line, is_log
from showncalls.errors import InvalidLog, InvalidNumber, InvalidOperation, TooMany, Unseen
from showncalls.know.minds import MOST_KEPT, mind_of
from showncalls.know.positions import first_position, lines_at, next_position, position_behind, standings_at
from showncalls.know.trails import shortest_run
from showncalls.run.runs import MAX_MOVES, Run


def is_log_of(program, value):
    """Whether a value is a log of a program."""
    check_program(program)
    return position_behind(mind_of(program), value) is not None


def standings_behind(program, value):
    """The ascending tuple of all standings that can stand at a log, or None if the value is no log of a program."""
    mind = mind_of(program)
    position = position_behind(mind, value)
    return None if position is None else standings_at(mind, position)


class Watcher:
    """What can be known at a log of a program. It has seen its first line."""

    def __init__(self, program):
        check_program(program)
        self._program = program
        self._mind = mind_of(program)
        self._most_kept = MOST_KEPT
        self._seen = [("enter", program.main)]
        # Behind each line that has been seen: the position, and the fact with all standings that can stand.
        self._positions = [first_position(self._mind)]
        self._facts = [self._fact_at(self._positions[0])]

    @classmethod
    def along(cls, program, log):
        """A watcher that has seen all lines of a log."""
        watcher = cls(program)
        if not is_log(log):
            raise InvalidLog("this is no log by its form")
        if log[0] != ("enter", program.main):
            raise Unseen(log[0])
        for line in log[1:]:
            watcher._go_on(line)
        return watcher

    @property
    def program(self):
        """The program."""
        return self._program

    @property
    def log(self):
        """The tuple of the lines that it has seen."""
        return tuple(self._seen)

    @property
    def knowing(self):
        """The knowing at the log, or None if main has been left."""
        knowing = self._positions[-1][0]
        return None if knowing is None else self._mind.decoded(knowing)

    @property
    def can_stand(self):
        """The fact with all standings that can stand."""
        return self._facts[-1]

    def see(self, line):
        """See one more line."""
        if not is_line(line):
            raise InvalidLog("this is no line of a log")
        self._go_on(line)

    def _go_on(self, line):
        """See what surely is a line."""
        if self._mind.many_kept() > self._most_kept:
            self._go_to(mind_of(self._program))
        position = next_position(self._mind, self._positions[-1], line)
        if position is None:
            raise Unseen(line)
        self._seen.append(line)
        self._positions.append(position)
        self._facts.append(self._fact_at(position))

    def _go_to(self, mind):
        """Go along the same log in another mind."""
        positions = [first_position(mind)]
        for line in self._seen[1:]:
            positions.append(next_position(mind, positions[-1], line))
        self._mind = mind
        self._positions = positions
        # The log alone may need that much; so it is twice as much before it is left again.
        self._most_kept = MOST_KEPT + 2 * mind.many_kept()

    def _fact_at(self, position):
        return self._mind.fact_with(standings_at(self._mind, position))

    def lines(self):
        """The ascending tuple of all lines that it can see next."""
        return lines_at(self._mind, self._positions[-1])

    def knows(self, fact):
        """Whether a fact is known."""
        check_fact(self._program, fact)
        return self._facts[-1].is_within(fact)

    def answer(self, fact):
        """What is known of a fact: "surely", "never" or "open"."""
        check_fact(self._program, fact)
        told = [standing in fact._held for standing in self._facts[-1].standings]
        if all(told):
            return "surely"
        return "open" if any(told) else "never"

    def run(self, standing):
        """Any shown run with this log that ends with a standing."""
        if standing not in self.can_stand:
            raise InvalidOperation("this standing cannot stand")
        found = shortest_run(self._program, self.log, standing)
        if found is None:
            raise TooMany(MAX_MOVES)
        return Run.of(self._program, found[0], found[1])

    def back(self, *, many=1):
        """Forget so many last lines; how many it has seen then."""
        if not is_number(many, len(self._seen)):
            raise InvalidNumber(many)
        left = len(self._seen) - many
        del self._seen[left:]
        del self._positions[left:]
        del self._facts[left:]
        return left

    def trial(self):
        """For a `with`: it gives the watcher itself, which behind the block is as before."""
        return Trial(self)

    def during(self, call):
        """What a call of the watcher returns; afterwards the watcher is as before."""
        with self.trial() as same:
            return call(same)

    def twin(self):
        """An independent copy."""
        made = Watcher(self._program)
        # The mind only keeps what it has worked out.
        made._mind = self._mind
        made._most_kept = self._most_kept
        made._seen = list(self._seen)
        made._positions = list(self._positions)
        made._facts = list(self._facts)
        return made

    def __call__(self, line):
        return self.see(line)

    def __len__(self):
        return len(self._seen)

    def __eq__(self, other):
        return isinstance(other, Watcher) and self._program == other._program and self._seen == other._seen

    def __str__(self):
        return f"watcher behind {len(self._seen)} lines"


class Trial:
    """A block behind which a watcher is as before."""

    def __init__(self, watcher):
        self._watcher = watcher
        self._mind = None
        self._seen = []
        self._positions = []
        self._facts = []

    def __enter__(self):
        self._mind = self._watcher._mind
        self._seen = list(self._watcher._seen)
        self._positions = list(self._watcher._positions)
        self._facts = list(self._watcher._facts)
        return self._watcher

    def __exit__(self, kind, value, trace):
        watcher = self._watcher
        watcher._mind = self._mind
        watcher._seen = self._seen
        watcher._positions = self._positions
        watcher._facts = self._facts
