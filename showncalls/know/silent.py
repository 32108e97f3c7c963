"""Silent moves: how quiet calls are passed, and to which nows a seen call goes on without a line."""

from showncalls.base.shapes import check_program
from showncalls.errors import InvalidOperation, UnknownName
from showncalls.know.walks import walks_of


def passages(program, name):
    """A dict from the begins of a procedure to the tuples of all (standing, own) with which it can be left silently."""
    _check(program, name)
    walks = walks_of(program)
    codes = walks.codes_of(name)
    found = {}
    for begin in program.begins(name):
        ends = walks.ends_from((name, codes.code_of((0,) + begin), False))
        found[begin] = tuple([codes.now_of(end)[1:] for end in sorted(ends)])
    return found


def nows(program, name, now):
    """The ascending tuple of all nows to which a now of a seen call goes on silently, itself included."""
    _check_now(program, name, now)
    walks = walks_of(program)
    codes = walks.codes_of(name)
    reached = walks.silently_from(name, codes.code_of(now))
    return tuple([codes.now_of(code) for code in sorted(reached)])


def is_stuck(program, name, now):
    """Whether a seen call cannot go on silently from a now to a move that writes a line."""
    # A call at which a silent walk ends is one that it cannot pass, or one that is seen.
    for place, standing, own in nows(program, name, now):
        statement = program.statement(name, place)
        if statement is None or statement[0] in ("say", "ask"):
            return False
        if statement[0] == "call" and (statement[1] == name or not program[statement[1]].quiet):
            return False
    return True


def _check(program, name):
    check_program(program)
    if name not in program:
        raise UnknownName(name)


def _check_now(program, name, now):
    _check(program, name)
    if not program._shapes[name].is_now(now):
        raise InvalidOperation("this is no now of the procedure")
