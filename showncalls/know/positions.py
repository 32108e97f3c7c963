"""Positions: where one stands at a log of a program.

A position is a pair: the coded knowing of the innermost seen call, and what was kept at its enter line with the rest
below that, (kept, (kept, ..)), or None in main. If main has been left, it is None and the tuple of the standings that
can stand.
"""


def first_position(mind):
    """The position behind the enter line of main."""
    return (mind.first(mind.main_context()), None)


def next_position(mind, position, line):
    """The position behind one more line, or None if no shown run goes on with it."""
    knowing, below = position
    pairs = None if knowing is None else mind.after(knowing).get(line)
    if pairs is None:
        return None
    reached = (knowing[0], pairs)
    if line[0] == "enter":
        return (mind.first(mind.context_given(reached)), (reached, below))
    if line[0] != "leave":
        return (reached, below)
    if below is None:
        return (None, mind.standings_in(knowing[0], pairs))
    return (mind.joined_back(below[0], pairs), below[1])


def lines_at(mind, position):
    """The ascending tuple of all lines that can come next."""
    knowing = position[0]
    return () if knowing is None else tuple(list(mind.after(knowing)))


def fact_at(mind, position):
    """The fact with all standings that can stand."""
    knowing, below = position
    return mind.fact_with(below if knowing is None else mind.standings_in(knowing[0], knowing[1]))
