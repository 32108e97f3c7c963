"""Left sets: what can be known with a program."""

from showncalls.base.facts import Fact
from showncalls.base.shapes import check_fact, check_program
from showncalls.errors import InvalidOperation, TooMany
from showncalls.know.least import Least
from showncalls.know.minds import Mind
from showncalls.know.tables import LONGEST_LOG, MAX_KNOWINGS


class Left:
    """What can be known with a program. It never changes."""

    def __init__(self, program):
        check_program(program)
        self._program = program
        mind = Mind(program)
        self._least = Least(mind, MAX_KNOWINGS)
        # By pairs of all standings that can stand at a log, and of whether it is an end log: the number of lines of a
        # shortest such log, and the item of the least table that it leads to, perhaps with the leave of main behind it.
        self._logs = {}
        for item in self._least.items_found():
            name, pairs = item[1]
            self._note((mind.standings_in(name, pairs), False), self._least.lines_to(item), item)
            given = mind.after(item[1]).get(("leave", program.main))
            if given is not None:
                self._note((mind.standings_in(name, given), True), self._least.lines_to(item) + 1, item)
        stand = sorted({standings for standings, at_end in self._logs})
        end = sorted({standings for standings, at_end in self._logs if at_end})
        self._fewest = min([len(standings) for standings in stand])
        self._sets = tuple([Fact(program.shared, standings) for standings in _least_of(stand)])
        self._end_sets = tuple([Fact(program.shared, standings) for standings in end])

    @property
    def program(self):
        """The program."""
        return self._program

    @property
    def sets(self):
        """The ascending tuple of the left sets."""
        return self._sets

    @property
    def end_sets(self):
        """The ascending tuple of all facts that are just what can stand at an end log."""
        return self._end_sets

    @property
    def fewest(self):
        """The least number of standings that can stand at a log."""
        return self._fewest

    def length_for(self, fact, *, at_end=False):
        """The least number of lines of a log, or of an end log, at which a fact is known, or None."""
        found = self._shortest_for(fact, at_end)
        return None if found is None else self._logs[found][0]

    def log_for(self, fact, *, at_end=False):
        """Any log, or end log, with so few lines, or None."""
        found = self._shortest_for(fact, at_end)
        if found is None:
            return None
        many, item = self._logs[found]
        if many > LONGEST_LOG:
            raise TooMany(LONGEST_LOG)
        log = self._least.log_to(item)
        return log + (("leave", self._program.main),) if found[1] else log

    def numbers(self, name):
        """The ascending tuple of the least sets of numbers of which a cell can be known to hold one."""
        return tuple(_least_of(sorted({fact.numbers(name) for fact in self._sets})))

    def _note(self, key, many, item):
        if key not in self._logs or many < self._logs[key][0]:
            self._logs[key] = (many, item)

    def _shortest_for(self, fact, at_end):
        """The key of a shortest log at which a fact is known, or None."""
        check_fact(self._program, fact)
        if not isinstance(at_end, bool):
            raise InvalidOperation("at_end is no boolean")
        keys = [key for key in self._logs if key[1] or not at_end]
        found = [(self._logs[key][0], key) for key in keys if all([standing in fact for standing in key[0]])]
        return min(found)[1] if found else None

    def __contains__(self, x):
        if not isinstance(x, Fact) or x.cells != self._program.shared:
            return False
        return any([fact.is_within(x) for fact in self._sets])

    def __len__(self):
        return len(self._sets)

    def __eq__(self, other):
        return isinstance(other, Left) and self._program == other._program

    def __str__(self):
        return f"{len(self._sets)} left sets"


def _least_of(found):
    """The list of those of some tuples that contain no other one of them whole."""
    return [one for one in found
            if not any([other != one and all([part in one for part in other]) for other in found])]
