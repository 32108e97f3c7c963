"""Whether values are programs, standings, nows and begins, and facts over the cells of a program."""

from showncalls.base.cells import is_row, sizes_of
from showncalls.base.checks import is_number
from showncalls.base.facts import Fact
from showncalls.base.programs import Program
from showncalls.errors import InvalidFact, InvalidProgram, UnknownName


class Shape:
    """What the begins, the states and the nows of a procedure look like. A state is a pair (standing, own)."""

    def __init__(self, program, name):
        self._shared_sizes = sizes_of(program.shared)
        self._own_sizes = tuple([size for cell, size in program[name].own])
        # In a begin all own cells hold 0, but for the first one of a procedure that can be called.
        passed = 1 if name != program.main else 0
        self._begin_sizes = self._own_sizes[:passed] + tuple([1 for size in self._own_sizes[passed:]])
        self._many_places = len(program[name]) + 1

    def is_state(self, value):
        """Whether a value is a pair of a standing and of numbers of the own cells."""
        return self._is_pair(value, self._own_sizes)

    def is_begin(self, value):
        """Whether a value is one of the begins of the procedure."""
        return self._is_pair(value, self._begin_sizes)

    def is_now(self, value):
        """Whether a value is a now of the procedure."""
        if not isinstance(value, tuple) or len(value) != 3:
            return False
        return is_number(value[0], self._many_places) and self.is_state(value[1:])

    def _is_pair(self, value, own_sizes):
        if not isinstance(value, tuple) or len(value) != 2:
            return False
        return is_row(self._shared_sizes, value[0]) and is_row(own_sizes, value[1])


def check_program(value):
    """Raise an error if this is no program."""
    if not isinstance(value, Program):
        raise InvalidProgram("this is no program")


def check_fact(program, value):
    """Raise an error if this is no fact over the shared cells of a program."""
    if not is_fact_over(program, value):
        raise InvalidFact("this is no fact over the shared cells of the program")


def is_fact_over(program, value):
    """Whether a value is a fact over the shared cells of a program."""
    return isinstance(value, Fact) and value.cells == program.shared


def check_heard(program, name):
    """Raise an error if this is no procedure that is not quiet."""
    if not is_heard(program, name):
        raise UnknownName(name)


def is_heard(program, value):
    """Whether a value is the name of a procedure that is not quiet."""
    return value in program and not program[value].quiet


def is_call(program, name, place, called):
    """Whether at a place of a procedure there is a call of another one, or of itself."""
    statement = program.statement(name, place)
    return statement is not None and statement[:2] == ("call", called)


def is_standing(program, value):
    """Whether a value is a standing of the shared cells of a program."""
    return is_row(sizes_of(program.shared), value)
