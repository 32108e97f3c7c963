"""Names, the lines of a log, logs by their form, and rows of numbers."""

from showncalls.base.checks import all_rows, is_integer, is_number
from showncalls.errors import InvalidLog, InvalidNumber

MOST_LETTERS = 8
MOST_SIZES = 8
LARGEST_SIZE = 4


def is_name(value):
    """Whether a value is a string of one to eight letters a to z."""
    if not isinstance(value, str) or not 1 <= len(value) <= MOST_LETTERS:
        return False
    return value.isascii() and value.isalpha() and value.islower()


def is_line(value):
    """Whether a value is a line of a log, by its form."""
    if not isinstance(value, tuple) or not 2 <= len(value) <= 3 or not is_name(value[1]):
        return False
    if len(value) == 2:
        return value[0] in ("enter", "leave", "say")
    return value[0] in ("ask", "say") and is_number(value[2], LARGEST_SIZE)


def is_log(value):
    """Whether a value is a log, by its form."""
    return _calls_of(value) is not None


def open_calls(log):
    """The names of the calls that are open at the end of a log, the outermost one first."""
    calls = _calls_of(log)
    if calls is None:
        raise InvalidLog("this is no log by its form")
    return tuple(calls)


def _calls_of(log):
    """A list of the open calls of a log, or None if it is none by its form."""
    if not isinstance(log, tuple) or not all([is_line(line) for line in log]):
        return None
    if not log or log[0][0] != "enter":
        return None
    calls = [log[0][1]]
    for line in log[1:]:
        if not calls or line[0] == "leave" and line[1] != calls[-1]:
            return None
        if line[0] == "enter":
            calls.append(line[1])
        if line[0] == "leave":
            calls.pop()
    return calls


def rows(sizes):
    """A generator of all tuples of numbers less than these sizes, in ascending order."""
    if not _are_sizes(sizes):
        raise InvalidNumber(sizes)
    found = all_rows(sizes)
    yield from found


def _are_sizes(value):
    """Whether a value is a tuple of sizes for which there are rows."""
    if not isinstance(value, tuple) or len(value) > MOST_SIZES:
        return False
    return all([is_integer(size) and 1 <= size <= LARGEST_SIZE for size in value])
