"""Knowings: what a log lets one know of the innermost seen call."""

from showncalls.base.checks import ascends
from showncalls.base.shapes import check_heard, check_program, is_call
from showncalls.errors import InvalidKnowing, InvalidOperation
from showncalls.know.minds import mind_of


def is_knowing(program, value):
    """Whether a value is a knowing of a program, by its form."""
    check_program(program)
    return mind_of(program).knowing_read(value) is not None


def first_knowing(program, name, begins):
    """The knowing in which each of some begins is its own now."""
    check_program(program)
    check_heard(program, name)
    if not are_begins(program, name, begins):
        raise InvalidKnowing("these are no begins of the procedure")
    return (name, tuple([(begin, (0,) + begin) for begin in begins]))


def spoken(program, knowing):
    """A dict from all lines that can be said or asked next to the knowings behind them."""
    mind, number = _read(program, knowing)
    after = mind.after(number)
    return {line: mind.told_of(after[line]) for line in after if line[0] in ("ask", "say")}


def entered(program, knowing):
    """A dict from the names of the procedures that can be entered next to pairs (kept, begins)."""
    mind, number = _read(program, knowing)
    after = mind.after(number)
    found = {}
    for line in after:
        if line[0] == "enter":
            context = mind.context_given(after[line])
            found[line[1]] = (mind.told_of(after[line]), mind.context_told(context)[1])
    return found


def ends(program, knowing):
    """The ascending tuple of the ends: pairs of a begin and a (standing, own) with which the call can be left."""
    mind, number = _read(program, knowing)
    given = mind.after(number).get(("leave", knowing[0]))
    if given is None:
        return ()
    # Told like nows, without their place.
    return tuple([(begin, now[1:]) for begin, now in mind.told_of(given)[1]])


def joined(program, kept, name, given):
    """The knowing joined of kept pairs and of some ends of the procedure that they call."""
    mind, number = _read(program, kept)
    check_heard(program, name)
    if not _are_ends(program, name, given):
        raise InvalidKnowing("these are no ends of the procedure")
    if not all([is_call(program, kept[0], now[0], name) for begin, now in kept[1]]):
        raise InvalidOperation("a kept now is at no call of the procedure")
    # An end is given by its now, at the end of the body.
    last = len(program[name])
    read = mind.knowing_read((name, tuple([(begin, (last,) + end) for begin, end in given])))
    found = mind.joined_back(number, read)
    if mind.is_empty(found):
        raise InvalidOperation("no call gives the begin of an end")
    return mind.told_of(found)


def possible(program, knowing):
    """The fact with all standings that can stand."""
    mind, number = _read(program, knowing)
    return mind.fact_with(mind.standings_in(number))


def final(program, knowing):
    """The fact with all standings that can end."""
    mind, number = _read(program, knowing)
    given = mind.after(number).get(("leave", knowing[0]))
    return mind.fact_with(() if given is None else mind.standings_in(given))


def are_begins(program, name, value):
    """Whether a value is an ascending tuple of begins of a procedure, at least one."""
    if not isinstance(value, tuple) or not value:
        return False
    shape = program.shapes[name]
    return all([shape.is_begin(begin) for begin in value]) and ascends(value)


def _read(program, value):
    """The mind of a program, and the number of a knowing in it."""
    check_program(program)
    mind = mind_of(program)
    number = mind.knowing_read(value)
    if number is None:
        raise InvalidKnowing("this is no knowing of the program")
    return mind, number


def _are_ends(program, name, value):
    """Whether a value is an ascending tuple of pairs of a begin and a state of a procedure, at least one."""
    if not isinstance(value, tuple) or not value:
        return False
    shape = program.shapes[name]
    pairs = [part for part in value if isinstance(part, tuple) and len(part) == 2]
    if len(pairs) < len(value):
        return False
    return all([shape.is_begin(begin) and shape.is_state(state) for begin, state in pairs]) and ascends(value)
