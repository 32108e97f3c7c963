"""Whether values are programs, and standings, names, calls and facts of a program."""

from showncalls.base.cells import is_row_among
from showncalls.base.facts import Fact
from showncalls.base.programs import Program
from showncalls.errors import InvalidFact, InvalidProgram, UnknownName


def check_program(value):
    """Raise an error if this is no program."""
    if not isinstance(value, Program):
        raise InvalidProgram("this is no program")


def check_fact(program, value):
    """Raise an error if this is no fact over the shared cells of a program."""
    if not is_fact_over(program, value):
        raise InvalidFact("this is no fact over the shared cells of the program")


def is_fact_over(program, value):
    """Whether a value is a fact over the shared cells of a program."""
    return isinstance(value, Fact) and value._cells == program._shared


def check_heard(program, name):
    """Raise an error if this is no procedure that is not quiet."""
    if not is_heard(program, name):
        raise UnknownName(name)


def is_heard(program, value):
    """Whether a value is the name of a procedure that is not quiet."""
    return value in program and not program[value].quiet


def is_call(program, name, place, called):
    """Whether at a place of a procedure there is a call of another one, or of itself."""
    return program.shapes[name].called_at(place) == called


def is_standing(program, value):
    """Whether a value is a standing of the shared cells of a program."""
    return is_row_among(value, program.all_standings)
