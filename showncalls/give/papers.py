"""Papers: what shows whether a fact can be known."""

from showncalls.base.shapes import check_fact, check_program
from showncalls.errors import TooMany
from showncalls.know.closed import is_closed_under
from showncalls.know.minds import mind_of
from showncalls.know.outcomes import outcomes_of
from showncalls.know.tables import LONGEST_LOG, Table, all_that_end, are_all_in, table_read
from showncalls.know.watchers import standings_behind


def fact_paper(program, fact):
    """Any paper of a program and a fact."""
    check_program(program)
    check_fact(program, fact)
    outcomes = outcomes_of(program)
    shortest = outcomes.shortest_of(outcomes.where_known(fact))
    if shortest is None:
        return ("never", Table(program).as_dict())
    if outcomes.many_lines(shortest) > LONGEST_LOG:
        raise TooMany(LONGEST_LOG)
    return ("known", outcomes.log_with(shortest))


def is_fact_paper(program, fact, value):
    """Whether a value is a paper of a program and a fact."""
    check_program(program)
    check_fact(program, fact)
    if not isinstance(value, tuple) or len(value) != 2:
        return False
    kind, shown = value
    if kind == "known":
        standings = standings_behind(program, shown)
        return standings is not None and are_all_in(fact, standings)
    if kind != "never":
        return False
    mind = mind_of(program)
    # What can stand is looked at while the table is read, which often is enough.
    table = table_read(mind, shown, lambda knowing: not are_all_in(fact, mind.standings_in(knowing)))
    if table is None or any([are_all_in(fact, standings) for standings in all_that_end(mind, table)]):
        return False
    return is_closed_under(mind, table)
