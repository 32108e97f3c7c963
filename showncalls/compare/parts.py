"""Parts of a program that can be left out of its log: words, and calls of procedures."""

from showncalls.base.checks import ascends, has_all_of
from showncalls.base.programs import Procedure, Program
from showncalls.base.shapes import check_program, is_fact_over, is_heard
from showncalls.base.statements import inner_bodies
from showncalls.base.words import is_log, is_name
from showncalls.errors import InvalidLog, InvalidOperation, TooMany
from showncalls.give.left import Left

MAX_PARTS = 4


def is_part(program, value):
    """Whether a value is a part of a program."""
    check_program(program)
    if not isinstance(value, tuple) or len(value) != 2:
        return False
    kind, name = value
    if kind == "word":
        return name in program.words
    return kind == "call" and is_heard(program, name) and name != program.main


def parts_of(program):
    """The ascending tuple of all parts of a program."""
    check_program(program)
    calls = [("call", name) for name in sorted(program.names) if is_part(program, ("call", name))]
    return tuple(calls + [("word", word) for word in program.words])


def without_parts(program, parts):
    """The program without some of its parts."""
    check_program(program)
    _check_parts(program, parts)
    return _without(program, parts)


def cut_log(program, parts, log):
    """A log, cut to the program without some of its parts."""
    check_program(program)
    _check_parts(program, parts)
    if not is_log(log) or log[0] != ("enter", program.main):
        raise InvalidLog("this is no log that begins with the enter of main")
    kept = []
    # How many of the calls are open that are left out, or stand within one that is.
    depth = 0
    for line in log:
        if depth > 0 or line[0] == "enter" and ("call", line[1]) in parts:
            depth += 1 if line[0] == "enter" else 0
            depth -= 1 if line[0] == "leave" else 0
        elif line[0] not in ("ask", "say") or ("word", line[1]) not in parts:
            kept.append(line)
    return tuple(kept)


def for_words(program, words):
    """The program for whoever sees some words alone."""
    check_program(program)
    if not isinstance(words, tuple) or not all([is_name(word) for word in words]) or not ascends(words):
        raise InvalidOperation("this is no ascending tuple of names")
    return _without(program, tuple([("word", word) for word in program.words if word not in words]))


def greatest_shown(program, parts, facts):
    """The ascending tuple of the greatest sets of some parts that can be shown while no fact can be known."""
    check_program(program)
    _check_parts(program, parts)
    if not isinstance(facts, tuple) or not all([is_fact_over(program, fact) for fact in facts]):
        raise InvalidOperation("this is no tuple of facts over the shared cells of the program")
    if len(parts) > MAX_PARTS:
        raise TooMany(MAX_PARTS)
    # All of them are looked at, since each one may have too many knowings.
    told = [(shown, Left(_without(program, tuple([part for part in parts if part not in shown]))))
            for shown in _choices_of(parts)]
    fine = [shown for shown, left in told if not any([fact in left for fact in facts])]
    greatest = [one for one in fine if not any([other != one and has_all_of(other, one) for other in fine])]
    return tuple(sorted(greatest))


def _check_parts(program, value):
    """Raise an error if this is no ascending tuple of parts of a program."""
    if not isinstance(value, tuple) or not all([is_part(program, part) for part in value]) or not ascends(value):
        raise InvalidOperation("this is no ascending tuple of parts of the program")


def _without(program, parts):
    """The program without what surely are parts of it."""
    return Program.of(program.shared, tuple([_less_procedure(one, parts) for one in program.procedures]))


def _less_procedure(procedure, parts):
    quiet = procedure.quiet or ("call", procedure.called) in parts
    return Procedure(procedure.called, _less_body(procedure.body, parts), own=procedure.own, quiet=quiet)


def _less_body(body, parts):
    """A body without the says with some words, and with hides for the asks with them."""
    found = []
    for statement in body:
        if statement[0] in ("ask", "say") and ("word", statement[1]) in parts:
            if statement[0] == "ask":
                found.append(("hide", statement[2]))
        else:
            bodies = inner_bodies(statement)
            less = tuple([_less_body(inner, parts) for inner in bodies])
            found.append(statement[:len(statement) - len(bodies)] + less)
    return tuple(found)


def _choices_of(parts):
    """The list of all tuples of some of these parts, in their order."""
    found = [()]
    for part in parts:
        found = found + [chosen + (part,) for chosen in found]
    return found
