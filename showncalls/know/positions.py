"""Positions: where one stands at a log of a program.

A position is a pair: the knowing of the innermost seen call, and what was kept at its enter line with the rest below
that, (kept, (kept, ..)), or None in main; all by their numbers in a mind. If main has been left, it is None and the
tuple of the standings that can stand.
"""


def first_position(mind):
    """The position behind the enter line of main."""
    return (mind.first(mind.main_context()), None)


def next_position(mind, position, line):
    """The position behind one more line, or None if no shown run goes on with it."""
    knowing, below = position
    reached = None if knowing is None else mind.after(knowing).get(line)
    if reached is None:
        return None
    if line[0] == "enter":
        return (mind.first(mind.context_given(reached)), (reached, below))
    if line[0] != "leave":
        return (reached, below)
    if below is None:
        return (None, mind.standings_in(reached))
    return (mind.joined_back(below[0], reached), below[1])


def position_behind(mind, value):
    """The position behind all lines of a value, or None if it is no log of the program."""
    if not isinstance(value, tuple) or not value or not _can_be_line(value[0]):
        return None
    if value[0] != ("enter", mind.called_in(mind.main_context())):
        return None
    position = first_position(mind)
    for line in value[1:]:
        # What can be looked up and is found there surely is a line.
        position = next_position(mind, position, line) if _can_be_line(line) else None
        if position is None:
            return None
    return position


def _can_be_line(value):
    """Whether a value is a tuple of strings and integers; True equals 1, but is none of these."""
    return type(value) == tuple and all([type(part) in (str, int) for part in value])


def lines_at(mind, position):
    """The ascending tuple of all lines that can come next."""
    knowing = position[0]
    return () if knowing is None else tuple(list(mind.after(knowing)))


def standings_at(mind, position):
    """The ascending tuple of all standings that can stand."""
    knowing, below = position
    return below if knowing is None else mind.standings_in(knowing)
