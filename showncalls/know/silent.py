"""Silent moves: how quiet calls are passed, and to which nows a seen call goes on without a line."""

from showncalls.base.shapes import check_program
from showncalls.errors import InvalidOperation, UnknownName
from showncalls.know.codes import bits_of
from showncalls.know.passes import passes_of
from showncalls.know.tracks import tracks_of


def passages(program, name):
    """A dict from the begins of a procedure to the tuples of all (standing, own) with which it can be left silently."""
    _check(program, name)
    codes, passes = tracks_of(program).codes_of(name), passes_of(program)
    found = {}
    for begin in program.begins(name):
        ends = passes.ends_of(name, codes.code_of_begin(begin))
        found[begin] = tuple([codes.state_of(end) for end in bits_of(ends)])
    return found


def nows(program, name, now):
    """The ascending tuple of all nows to which a now of a seen call goes on silently, itself included."""
    code = _code_read(program, name, now)
    codes = tracks_of(program).codes_of(name)
    return tuple([codes.now_of(reached) for reached in sorted(_codes_from(program, name, code))])


def is_stuck(program, name, now):
    """Whether a seen call cannot go on silently from a now to a move that writes a line."""
    start = _code_read(program, name, now)
    tracks = tracks_of(program)
    # A call at which a silent walk ends is one that it cannot pass, or one that is seen.
    for code in _codes_from(program, name, start):
        kind, found = tracks.stop(name, code)
        if kind == "leave" or kind == "call" and not _passes_silently(program, name, found[0]):
            return False
        if kind == "move" and any([line is not None for line, behind in found]):
            return False
    return True


def _check(program, name):
    check_program(program)
    if name not in program:
        raise UnknownName(name)


def _code_read(program, name, now):
    """The code of a now of a procedure."""
    _check(program, name)
    tracks = tracks_of(program)
    code = tracks.codes_of(name).now_read(now)
    if code is None or now[0] >= len(tracks.places_in(name)):
        raise InvalidOperation("this is no now of the procedure")
    return code


def _codes_from(program, name, code):
    """The list of the codes of all nows to which a now of a seen call goes on silently, itself first."""
    found = {code: True}
    waiting = [code]
    while waiting:
        for behind in _codes_behind(program, name, waiting.pop()):
            if behind not in found:
                found[behind] = True
                waiting.append(behind)
    return list(found)


def _codes_behind(program, name, code):
    """The list of the codes behind the silent moves, or behind the calls passed silently, at a now of a seen call."""
    tracks = tracks_of(program)
    kind, found = tracks.stop(name, code)
    if kind == "move":
        return [behind for line, behind in found if line is None]
    if kind == "leave" or not _passes_silently(program, name, found[0]):
        return []
    called, begin = found
    return bits_of(tracks.given_back_all(name, code, called, passes_of(program).ends_of(called, begin)))


def _passes_silently(program, name, called):
    """Whether a seen call of one procedure passes calls of another one silently."""
    # A quiet procedure may be asked for as if it were not quiet; then its calls of itself are seen, too.
    return program[called].quiet and called != name
