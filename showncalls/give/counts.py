"""Counts of the logs of a program, and all of them."""

from showncalls.base.checks import is_number
from showncalls.base.shapes import check_fact, check_program
from showncalls.errors import InvalidNumber
from showncalls.give.tallies import tally_of
from showncalls.know.lengths import Lengths
from showncalls.know.minds import MOST_KEPT, mind_of
from showncalls.know.positions import first_position, lines_at, next_position, position_behind
from showncalls.know.tables import are_all_in

MAX_LINES = 40


def count_logs(program, many):
    """How many logs of a program have just so many lines."""
    check_program(program)
    _check_many(many)
    return tally_of(program).total(many)


def count_known(program, fact, many):
    """At how many logs of a program with just so many lines a fact is known."""
    check_program(program)
    check_fact(program, fact)
    _check_many(many)
    return tally_of(program).total(many, lambda standings: are_all_in(fact, standings))


def logs(program, many):
    """A generator of all logs of a program with just so many lines, ascending."""
    check_program(program)
    _check_many(many)
    mind = mind_of(program)
    most_kept = MOST_KEPT
    lengths = Lengths(mind)
    start = ((("enter", program.main),), first_position(mind))
    # Each log that waits here is the beginning of a wanted one; the last one comes first.
    waiting = [start] if many > 0 and lengths.can_follow(start[1], many - 1) else []
    while waiting:
        if mind.many_kept() > most_kept:
            mind = mind_of(program)
            lengths.go_to(mind)
            waiting = [(log, position_behind(mind, log)) for log, position in waiting]
            # What waits may need that much; so it is twice as much before it is left again.
            most_kept = MOST_KEPT + 2 * mind.many_kept()
        log, position = waiting.pop()
        if len(log) == many:
            yield log
        else:
            longer = [(log + (line,), next_position(mind, position, line)) for line in lines_at(mind, position)]
            going_on = [one for one in longer if lengths.can_follow(one[1], many - len(log) - 1)]
            waiting.extend(going_on[::-1])


def _check_many(many):
    """Raise an error if this is no number of lines."""
    if not is_number(many, MAX_LINES + 1):
        raise InvalidNumber(many)
