"""Outcomes: what can stand at the logs of a program, and shortest logs for each of them."""

from showncalls.base.checks import least_among
from showncalls.know.least import least_of
from showncalls.know.tables import MAX_KNOWINGS, are_all_in


def outcomes_of(program):
    """The outcomes of a program, which are found once."""
    if "outcomes" not in program._kept:
        program._kept["outcomes"] = Outcomes(program)
    return program._kept["outcomes"]


class Outcomes:
    """All that can stand at some log. An outcome is a pair: the ascending tuple of all standings that can stand at a
    log, and whether it is an end log."""

    def __init__(self, program):
        self._last_line = ("leave", program.main)
        self._least = least_of(program, MAX_KNOWINGS)
        self._outcomes = {outcome: True for item in self._least.items_found() for outcome in self._outcomes_at(item)}
        self._least_standings = least_among(sorted({standings for standings, at_end in self._outcomes}))
        # By outcome, when it is asked for: the number of lines of a shortest log with it, and the item of the least
        # table that this log leads to, perhaps with the leave of main behind it.
        self._shortest = {}

    def told(self):
        """The list of all outcomes."""
        return list(self._outcomes)

    def least_standings(self):
        """The ascending list of all that can stand at a log, but for what has all of another such tuple in it."""
        return list(self._least_standings)

    def many_lines(self, outcome):
        """The least number of lines of a log with an outcome."""
        return self._shortest_for(outcome)[0]

    def log_with(self, outcome):
        """A log with so few lines."""
        log = self._least.shortest_logs().log_to(self._shortest_for(outcome)[1])
        return log + (self._last_line,) if outcome[1] else log

    def shortest_of(self, outcomes):
        """The one of some outcomes that a log with the fewest lines has, or None if there is none of them."""
        found = [(self.many_lines(outcome), outcome) for outcome in outcomes]
        return min(found)[1] if found else None

    def where_known(self, fact):
        """The list of all outcomes by which a fact is known."""
        return [outcome for outcome in self._outcomes if are_all_in(fact, outcome[0])]

    def _outcomes_at(self, item):
        """The list of the outcomes of the logs that lead to an item, and of those with the leave of main behind it."""
        mind = self._least.mind()
        found = [(mind.standings_in(item[1]), False)]
        given = mind.after(item[1]).get(self._last_line)
        return found if given is None else found + [(mind.standings_in(given), True)]

    def _shortest_for(self, outcome):
        """The number of lines of a shortest log with an outcome, and its item."""
        if not self._shortest:
            logs = self._least.shortest_logs()
            for item in logs.items_found():
                for one in self._outcomes_at(item):
                    many = logs.lines_to(item) + (1 if one[1] else 0)
                    if one not in self._shortest or many < self._shortest[one][0]:
                        self._shortest[one] = (many, item)
        return self._shortest[outcome]
