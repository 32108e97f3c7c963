"""Texts of programs and of logs."""

from showncalls.base.shapes import check_program
from showncalls.base.statements import inner_bodies
from showncalls.base.words import is_log
from showncalls.errors import InvalidLog, InvalidProgram, ParseError
from showncalls.text.forms import LOG_FORMS, STATEMENT_FORMS, read_form, write_form, write_pairs, write_set
from showncalls.text.reading import BLANKS, DUE, Reader


def write_program(program):
    """The text of a program."""
    check_program(program)
    lines = [write_pairs("shared", list(program.shared.items()))]
    for procedure in program.procedures:
        lines.append(f"quiet {procedure.called}" if procedure.quiet else f"procedure {procedure.called}")
        if procedure.own:
            lines.append(write_pairs("own", procedure.own))
        lines.extend(_body_lines(procedure.body, 1))
    return "\n".join(lines)


def write_log(log):
    """The text of a log."""
    if not is_log(log):
        raise InvalidLog("this is no log by its form")
    return "\n".join([write_form(LOG_FORMS, line) for line in log])


def read_program(text):
    """The program with this text."""
    reader = Reader()
    lines = _lines_of(text)
    for at, line in enumerate(lines):
        if not reader.takes(line):
            raise ParseError(at)
    if not reader.can_end():
        raise ParseError(len(lines))
    program = reader.made_program()
    # What has been read may still have another text, such as one in which the shared cells ascend.
    if write_program(program) != text:
        raise InvalidProgram("this is not the text of a program")
    return program


def read_log(text):
    """The log with this text."""
    log = []
    for at, line in enumerate(_lines_of(text)):
        told = read_form(LOG_FORMS, line)
        if told is None:
            raise ParseError(at)
        log.append(told)
    if not is_log(tuple(log)):
        raise InvalidLog("this is not the text of a log")
    return tuple(log)


def _lines_of(text):
    """The list of the lines of a text."""
    if not isinstance(text, str):
        raise ParseError(None)
    return text.split("\n")


def _body_lines(body, level):
    """The list of the lines of a body on this level, and of those inside it."""
    indentation = " " * (BLANKS * level)
    lines = []
    for statement in body:
        bodies = inner_bodies(statement)
        head = statement[:len(statement) - len(bodies)]
        lines.append(indentation + (write_set(head) if head[0] == "set" else write_form(STATEMENT_FORMS, head)))
        for at, inner in enumerate(bodies):
            if at == 1:
                lines.append(indentation + DUE[head[0]])
            lines.extend(_body_lines(inner, level + 1))
    return lines
