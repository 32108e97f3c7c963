"""Whether one program gives away no more than another one with the same shared cells."""

from showncalls.base.checks import ascends, has_all_of
from showncalls.base.facts import Fact
from showncalls.base.shapes import check_program, is_fact_over
from showncalls.errors import InvalidOperation, TooMany
from showncalls.know.closed import is_closed_under
from showncalls.know.minds import mind_of
from showncalls.know.outcomes import outcomes_of
from showncalls.know.tables import LONGEST_LOG, Table, all_that_end, all_that_stand, are_all_in, bars_fact, table_read
from showncalls.know.watchers import standings_behind


def gives_no_more(one, other):
    """Whether each fact that can be known with the first program can be known with the second one."""
    _check(one, other)
    return not _telling_outcomes(one, other)


def more_paper(one, other):
    """Any more paper of two programs."""
    _check(one, other)
    outcomes = outcomes_of(one)
    shortest = outcomes.shortest_of(_telling_outcomes(one, other))
    if shortest is None:
        return ("no more", Table(one).as_dict(), _logs_to_least(other))
    if outcomes.many_lines(shortest) > LONGEST_LOG:
        raise TooMany(LONGEST_LOG)
    # What can stand at this log is a fact that is known there, and the shortest log for any such fact is this one.
    return ("more", Fact(one.shared, shortest[0]), outcomes.log_with(shortest), Table(other).as_dict())


def is_more_paper(one, other, value):
    """Whether a value is a more paper of two programs."""
    _check(one, other)
    if not isinstance(value, tuple) or not value:
        return False
    if len(value) == 4 and value[0] == "more":
        return _shows_more(one, other, value[1], value[2], value[3])
    return len(value) == 3 and value[0] == "no more" and _shows_no_more(one, other, value[1], value[2])


def _check(one, other):
    check_program(one)
    check_program(other)
    if one.shared != other.shared:
        raise InvalidOperation("the shared cells of the programs are not equal")


def _telling_outcomes(one, other):
    """The list of the outcomes of the first program that are facts which the second one never lets be known."""
    # Both are needed, whatever is found.
    found, least = outcomes_of(one).told(), outcomes_of(other).least_standings()
    return [outcome for outcome in found if not _holds_one_of(least, outcome[0])]


def _logs_to_least(program):
    """The ascending tuple of shortest logs of a program for all its left sets."""
    outcomes = outcomes_of(program)
    logs_found = []
    for standings in outcomes.least_standings():
        shortest = outcomes.shortest_of([outcome for outcome in outcomes.told() if outcome[0] == standings])
        if outcomes.many_lines(shortest) > LONGEST_LOG:
            raise TooMany(LONGEST_LOG)
        logs_found.append(outcomes.log_with(shortest))
    return tuple(sorted(logs_found))


def _shows_more(one, other, fact, log, table):
    """Whether a fact is known at a log of the first program, and barred by a closed table of the second one."""
    standings = standings_behind(one, log) if is_fact_over(one, fact) else None
    if standings is None or not are_all_in(fact, standings):
        return False
    mind = mind_of(other)
    read = table_read(mind, table)
    return read is not None and bars_fact(mind, read, fact) and is_closed_under(mind, read)


def _shows_no_more(one, other, table, value):
    """Whether a closed table of the first program nowhere lets more be known than some logs of the second one."""
    mind = mind_of(one)
    read = table_read(mind, table)
    if read is None or not isinstance(value, tuple) or not is_closed_under(mind, read):
        return False
    stand = [standings_behind(other, log) for log in value]
    if None in stand or not ascends(value):
        return False
    shown = all_that_stand(mind, read) + all_that_end(mind, read)
    return all([_holds_one_of(stand, standings) for standings in shown])


def _holds_one_of(found, standings):
    """Whether all of one of some tuples are among these standings."""
    return any([has_all_of(standings, one) for one in found])
