"""Programs that are alike: those with the same logs."""

from showncalls.base.shapes import check_program
from showncalls.compare.pairs import PairMind
from showncalls.errors import TooMany
from showncalls.know.closed import is_closed_under
from showncalls.know.least import Least, knowings_told
from showncalls.know.minds import mind_of
from showncalls.know.tables import LONGEST_LOG, MAX_KNOWINGS
from showncalls.know.watchers import is_log_of


def are_alike(one, other):
    """Whether two programs have the same logs."""
    check_program(one)
    check_program(other)
    if one.main != other.main:
        return False
    mind = _pair_mind(one, other)
    return not [item for item in Least(mind, MAX_KNOWINGS).items_found() if mind.lines_apart(item[1])]


def alike_paper(one, other):
    """Any alike paper of two programs."""
    check_program(one)
    check_program(other)
    if one.main != other.main:
        return ("apart", (("enter", one.main),))
    mind = _pair_mind(one, other)
    least = Least(mind, MAX_KNOWINGS)
    apart = [item for item in least.items_found() if mind.lines_apart(item[1])]
    if not apart:
        return ("alike", knowings_told(mind, least.items_found()))
    logs = least.shortest_logs()
    many, _, item = min([(logs.lines_to(item) + 1, mind.order_coded(item), item) for item in apart])
    if many > LONGEST_LOG:
        raise TooMany(LONGEST_LOG)
    return ("apart", logs.log_to(item) + (mind.lines_apart(item[1])[0],))


def is_alike_paper(one, other, value):
    """Whether a value is an alike paper of two programs."""
    check_program(one)
    check_program(other)
    if not isinstance(value, tuple) or len(value) != 2:
        return False
    kind, shown = value
    if kind == "apart":
        return is_log_of(one, shown) != is_log_of(other, shown)
    return kind == "alike" and _is_closed_pair_table(one, other, shown)


def _pair_mind(one, other):
    # Equal programs can have one mind.
    return PairMind(mind_of(one), mind_of(one if one == other else other))


def _is_closed_pair_table(one, other, value):
    if one.main != other.main:
        return False
    mind = _pair_mind(one, other)
    table = mind.pair_table_read(value)
    if table is None or any([mind.lines_apart(pair) for triple in table for pair in table[triple]]):
        return False
    return is_closed_under(mind, table)
