"""The errors of the package."""


def copied(value):
    """The value with copies of all lists and dicts in it."""
    # The caller may change a wrong value after the error; the error still tells what was passed.
    if isinstance(value, list):
        return [copied(part) for part in value]
    if isinstance(value, tuple):
        return tuple([copied(part) for part in value])
    if isinstance(value, dict):
        return {key: copied(value[key]) for key in value}
    return value


class CallError(ValueError):
    """An argument or a text that does not have the form that is due."""


class InvalidFact(CallError):
    """No fact, no cells of one, or a fact over other cells."""


class InvalidProgram(CallError):
    """No program, or no procedure."""


class InvalidLog(CallError):
    """No log, or no line of one."""


class InvalidRun(CallError):
    """No run of the program."""


class InvalidKnowing(CallError):
    """No knowing of the program."""


class InvalidTable(CallError):
    """No table of the program, or nothing that is in it."""


class InvalidOperation(CallError):
    """An operation with a value that does not fit."""


class InvalidCommand(CallError):
    """No command of the shell."""


class ParseError(CallError):
    """A text with a wrong line: its index, or None if there is no text."""

    def __init__(self, line):
        self.line = copied(line)


class UnknownName(KeyError):
    """A name of nothing that is there."""

    def __init__(self, name):
        self.name = copied(name)


class InvalidNumber(IndexError):
    """A number, or a tuple of numbers, that is out of bounds."""

    def __init__(self, value):
        self.value = copied(value)


class NothingToUndo(LookupError):
    """Fewer calls to take back, or to do again, than asked for."""

    def __init__(self, many):
        self.many = copied(many)


class Unseen(LookupError):
    """A line with which no shown run goes on."""

    def __init__(self, line):
        self.line = copied(line)


class Refused(ArithmeticError):
    """A promise that is not kept, or would not be."""

    def __init__(self, name):
        self.name = copied(name)


class TooMany(OverflowError):
    """More than a limit."""

    def __init__(self, limit):
        self.limit = copied(limit)
