"""Papers: what shows whether a fact can be known."""

from showncalls.base.shapes import check_fact, check_program
from showncalls.errors import TooMany
from showncalls.know.outcomes import outcomes_of
from showncalls.know.tables import LONGEST_LOG, Table, bars_fact, is_closed
from showncalls.know.watchers import Watcher, is_log_of


def fact_paper(program, fact):
    """Any paper of a program and a fact."""
    check_program(program)
    check_fact(program, fact)
    outcomes = outcomes_of(program)
    shortest = outcomes.shortest_of(outcomes.where_known(fact))
    if shortest is None:
        return ("never", Table(program).as_dict())
    if outcomes.many_lines(shortest) > LONGEST_LOG:
        raise TooMany(LONGEST_LOG)
    return ("known", outcomes.log_with(shortest))


def is_fact_paper(program, fact, value):
    """Whether a value is a paper of a program and a fact."""
    check_program(program)
    check_fact(program, fact)
    if not isinstance(value, tuple) or len(value) != 2:
        return False
    kind, shown = value
    if kind == "known":
        return is_log_of(program, shown) and Watcher.along(program, shown).knows(fact)
    return kind == "never" and is_closed(program, shown) and bars_fact(program, shown, fact)
