"""Left sets: what can be known with a program."""

from showncalls.base.checks import least_among
from showncalls.base.facts import Fact
from showncalls.base.shapes import check_fact, check_program
from showncalls.errors import InvalidOperation, TooMany
from showncalls.know.minds import mind_of
from showncalls.know.outcomes import outcomes_of
from showncalls.know.tables import LONGEST_LOG


class Left:
    """What can be known with a program. It never changes."""

    def __init__(self, program):
        check_program(program)
        self._program = program
        self._outcomes = outcomes_of(program)
        mind = mind_of(program)
        end = sorted([standings for standings, at_end in self._outcomes.told() if at_end])
        self._fewest = min([len(standings) for standings, at_end in self._outcomes.told()])
        self._sets = tuple([mind.fact_with(standings) for standings in self._outcomes.least_standings()])
        self._end_sets = tuple([mind.fact_with(standings) for standings in end])

    @property
    def program(self):
        """The program."""
        return self._program

    @property
    def sets(self):
        """The ascending tuple of the left sets."""
        return self._sets

    @property
    def end_sets(self):
        """The ascending tuple of all facts that are just what can stand at an end log."""
        return self._end_sets

    @property
    def fewest(self):
        """The least number of standings that can stand at a log."""
        return self._fewest

    def length_for(self, fact, *, at_end=False):
        """The least number of lines of a log, or of an end log, at which a fact is known, or None."""
        found = self._shortest_for(fact, at_end)
        return None if found is None else self._outcomes.many_lines(found)

    def log_for(self, fact, *, at_end=False):
        """Any log, or end log, with so few lines, or None."""
        found = self._shortest_for(fact, at_end)
        if found is None:
            return None
        if self._outcomes.many_lines(found) > LONGEST_LOG:
            raise TooMany(LONGEST_LOG)
        return self._outcomes.log_with(found)

    def numbers(self, name):
        """The ascending tuple of the least sets of numbers of which a cell can be known to hold one."""
        return tuple(least_among(sorted({fact.numbers(name) for fact in self._sets})))

    def _shortest_for(self, fact, at_end):
        """The outcome of a shortest log at which a fact is known, or None."""
        check_fact(self._program, fact)
        if not isinstance(at_end, bool):
            raise InvalidOperation("at_end is no boolean")
        known = self._outcomes.where_known(fact)
        return self._outcomes.shortest_of([outcome for outcome in known if outcome[1] or not at_end])

    def __contains__(self, x):
        if not isinstance(x, Fact) or x.cells != self._program.shared:
            return False
        return any([fact.is_within(x) for fact in self._sets])

    def __len__(self):
        return len(self._sets)

    def __eq__(self, other):
        return isinstance(other, Left) and self._program == other._program

    def __str__(self):
        return f"{len(self._sets)} left sets"
