"""Texts of programs and of logs."""

from showncalls.base.shapes import check_program
from showncalls.base.statements import inner_bodies
from showncalls.base.words import is_log
from showncalls.errors import InvalidLog, InvalidProgram, ParseError
from showncalls.text.forms import read_line, write_head, write_line, write_pairs
from showncalls.text.reading import DUE, INDENTATION, Reader


def write_program(program):
    """The text of a program."""
    check_program(program)
    lines = [write_pairs("shared", list(program.shared.items()))]
    for procedure in program.procedures:
        lines.append(f"quiet {procedure.called}" if procedure.quiet else f"procedure {procedure.called}")
        if procedure.own:
            lines.append(write_pairs("own", procedure.own))
        _add_lines(lines, procedure.body, INDENTATION)
    return "\n".join(lines)


def write_log(log):
    """The text of a log."""
    if not is_log(log):
        raise InvalidLog("this is no log by its form")
    return "\n".join([write_line(line) for line in log])


def read_program(text):
    """The program with this text."""
    reader = Reader()
    lines = _lines_of(text)
    for at, line in enumerate(lines):
        if not reader.takes(line):
            raise ParseError(at)
    if not reader.can_end():
        raise ParseError(len(lines))
    # The shared cells ascend in a text; all else that has been read has just one text.
    if not reader.has_ascending_cells():
        raise InvalidProgram("this is not the text of a program")
    return reader.made_program()


def read_log(text):
    """The log with this text."""
    log = []
    for at, line in enumerate(_lines_of(text)):
        told = read_line(line)
        if told is None:
            raise ParseError(at)
        log.append(told)
    if not is_log(tuple(log)):
        raise InvalidLog("this is not the text of a log")
    return tuple(log)


def _lines_of(text):
    """The list of the lines of a text."""
    if not isinstance(text, str):
        raise ParseError(None)
    return text.split("\n")


def _add_lines(lines, body, indentation):
    """Add the lines of a body with this indentation, and of those inside it."""
    for statement in body:
        lines.append(indentation + write_head(statement))
        if statement[0] in ("if", "either", "often"):
            for at, inner in enumerate(inner_bodies(statement)):
                if at == 1:
                    lines.append(indentation + DUE[statement[0]])
                _add_lines(lines, inner, indentation + INDENTATION)
