"""Settled facts: those of which each end log tells whether they hold."""

from showncalls.base.cells import standings_of
from showncalls.base.facts import Fact
from showncalls.base.shapes import check_fact, check_program
from showncalls.errors import TooMany
from showncalls.know.closed import is_closed_under
from showncalls.know.minds import mind_of
from showncalls.know.outcomes import outcomes_of
from showncalls.know.tables import LONGEST_LOG, Table, all_that_end, table_read
from showncalls.know.watchers import standings_behind


def is_settled(program, fact):
    """Whether at each end log a fact or its opposite is known."""
    check_program(program)
    check_fact(program, fact)
    return not _open_outcomes(program, fact)


def settled_paper(program, fact):
    """Any settled paper of a program and a fact."""
    check_program(program)
    check_fact(program, fact)
    outcomes = outcomes_of(program)
    shortest = outcomes.shortest_of(_open_outcomes(program, fact))
    if shortest is None:
        return ("settled", Table(program).as_dict())
    if outcomes.many_lines(shortest) > LONGEST_LOG:
        raise TooMany(LONGEST_LOG)
    return ("open", outcomes.log_with(shortest))


def is_settled_paper(program, fact, value):
    """Whether a value is a settled paper of a program and a fact."""
    check_program(program)
    check_fact(program, fact)
    if not isinstance(value, tuple) or len(value) != 2:
        return False
    kind, shown = value
    if kind == "open":
        standings = standings_behind(program, shown)
        return standings is not None and shown[-1] == ("leave", program.main) and _is_open(fact, standings)
    mind = mind_of(program)
    table = table_read(mind, shown) if kind == "settled" else None
    if table is None or any([_is_open(fact, standings) for standings in all_that_end(mind, table)]):
        return False
    return is_closed_under(mind, table)


def settled_classes(program):
    """The ascending tuple of the least settled facts that are not empty."""
    check_program(program)
    classes = [(standing,) for standing in standings_of(program.shared)]
    for standings, at_end in outcomes_of(program).told():
        if at_end:
            # What can stand together at an end log is not told apart there.
            met = [one for one in classes if any([standing in standings for standing in one])]
            together = tuple(sorted([standing for one in met for standing in one]))
            classes = [one for one in classes if one not in met] + [together]
    return tuple([Fact(program.shared, one) for one in sorted(classes)])


def _open_outcomes(program, fact):
    """The list of the outcomes of end logs at which neither a fact nor its opposite is known."""
    return [outcome for outcome in outcomes_of(program).told() if outcome[1] and _is_open(fact, outcome[0])]


def _is_open(fact, standings):
    """Whether some of these standings, but not all, are in a fact."""
    return len({standing in fact._held for standing in standings}) == 2
