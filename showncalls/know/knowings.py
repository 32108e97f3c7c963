"""Knowings: what a log lets one know of the innermost seen call."""

from showncalls.base.checks import ascends
from showncalls.base.shapes import check_heard, check_program, is_call, is_heard
from showncalls.errors import InvalidKnowing, InvalidOperation
from showncalls.know.minds import mind_of


def is_knowing(program, value):
    """Whether a value is a knowing of a program, by its form."""
    check_program(program)
    if not isinstance(value, tuple) or len(value) != 2 or not is_heard(program, value[0]):
        return False
    return program._shapes[value[0]].are_pairs(value[1])


def first_knowing(program, name, begins):
    """The knowing in which each of some begins is its own now."""
    check_program(program)
    check_heard(program, name)
    if not are_begins(program, name, begins):
        raise InvalidKnowing("these are no begins of the procedure")
    return (name, tuple([(begin, (0,) + begin) for begin in begins]))


def spoken(program, knowing):
    """A dict from all lines that can be said or asked next to the knowings behind them."""
    _check(program, knowing)
    mind = mind_of(program)
    after = mind.after(mind.coded(knowing))
    return {line: mind.told_of((knowing[0], after[line])) for line in after if line[0] in ("ask", "say")}


def entered(program, knowing):
    """A dict from the names of the procedures that can be entered next to pairs (kept, begins)."""
    _check(program, knowing)
    mind = mind_of(program)
    after = mind.after(mind.coded(knowing))
    found = {}
    for line in after:
        if line[0] == "enter":
            kept = (knowing[0], after[line])
            found[line[1]] = (mind.told_of(kept), mind.decoded_begins(line[1], mind.context_given(kept)[1]))
    return found


def ends(program, knowing):
    """The ascending tuple of the ends: pairs of a begin and a (standing, own) with which the call can be left."""
    _check(program, knowing)
    mind = mind_of(program)
    return _ends(mind, mind.coded(knowing))


def joined(program, kept, name, given):
    """The knowing joined of kept pairs and of some ends of the procedure that they call."""
    _check(program, kept)
    check_heard(program, name)
    if not _are_ends(program, name, given):
        raise InvalidKnowing("these are no ends of the procedure")
    if not all([is_call(program, kept[0], now[0], name) for begin, now in kept[1]]):
        raise InvalidOperation("a kept now is at no call of the procedure")
    mind = mind_of(program)
    # An end is given by its now, at the end of the body.
    last = len(program[name])
    coded_ends = mind.coded((name, tuple([(begin, (last,) + end) for begin, end in given])))[1]
    found = mind.joined_back(mind.coded(kept), coded_ends)
    if not found[1]:
        raise InvalidOperation("no call gives the begin of an end")
    return mind.told_of(found)


def possible(program, knowing):
    """The fact with all standings that can stand."""
    _check(program, knowing)
    mind = mind_of(program)
    name, pairs = mind.coded(knowing)
    return mind.fact_with(mind.standings_in(name, pairs))


def final(program, knowing):
    """The fact with all standings that can end."""
    _check(program, knowing)
    mind = mind_of(program)
    given = mind.after(mind.coded(knowing)).get(("leave", knowing[0]), ())
    return mind.fact_with(mind.standings_in(knowing[0], given))


def are_begins(program, name, value):
    """Whether a value is an ascending tuple of begins of a procedure, at least one."""
    if not isinstance(value, tuple) or not value:
        return False
    shape = program._shapes[name]
    return all([shape.is_begin(begin) for begin in value]) and ascends(value)


def _check(program, value):
    if not is_knowing(program, value):
        raise InvalidKnowing("this is no knowing of the program")


def _are_ends(program, name, value):
    """Whether a value is an ascending tuple of pairs of a begin and a state of a procedure, at least one."""
    if not isinstance(value, tuple) or not value:
        return False
    shape = program._shapes[name]
    pairs = [part for part in value if isinstance(part, tuple) and len(part) == 2]
    if len(pairs) < len(value):
        return False
    return all([shape.is_begin(begin) and shape.is_state(state) for begin, state in pairs]) and ascends(value)


def _ends(mind, knowing):
    """The ends of a coded knowing."""
    pairs = mind.after(knowing).get(("leave", knowing[0]), ())
    # Decoded like nows, without their place.
    return tuple([(begin, now[1:]) for begin, now in mind.told_of((knowing[0], pairs))[1]])
