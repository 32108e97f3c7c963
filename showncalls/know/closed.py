"""Whether tables have all that follows from what they have. Contexts and knowings stand here by their numbers."""


def is_closed_under(mind, table):
    """Whether a table, a dict from contexts to dicts with their knowings as keys, is closed."""
    if mind.main_context() not in table:
        return False
    left = {context: _all_ends(mind, context, table[context]) for context in table}
    for context in table:
        if mind.first(context) not in table[context]:
            return False
        for knowing in table[context]:
            if not _has_all_behind(mind, table, left, table[context], knowing):
                return False
    return True


def _all_ends(mind, context, knowings):
    """A list of all ends which some of these knowings of a context have."""
    leave = ("leave", mind.called_in(context))
    given = [mind.after(knowing).get(leave) for knowing in knowings]
    return list({ends: True for ends in given if ends is not None})


def _has_all_behind(mind, table, left, knowings, knowing):
    """Whether a table has all that follows from one of the knowings of a context; `left` has all ends by contexts."""
    after = mind.after(knowing)
    for line in after:
        if line[0] in ("ask", "say"):
            if after[line] not in knowings:
                return False
        elif line[0] == "enter":
            inner = mind.context_given(after[line])
            if inner not in table:
                return False
            for given in left[inner]:
                if mind.joined_back(after[line], given) not in knowings:
                    return False
    return True
