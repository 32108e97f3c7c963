"""Whether tables have all that follows from what they have. Tables, contexts and knowings are coded here."""


def is_closed_under(mind, table):
    """Whether a table, a dict from contexts to dicts with their knowings as keys, is closed."""
    if mind.main_context() not in table:
        return False
    left = {context: _all_ends(mind, table[context]) for context in table}
    for context in table:
        if mind.first(context) not in table[context]:
            return False
        for knowing in table[context]:
            if not _has_all_behind(mind, table, left, context, knowing):
                return False
    return True


def _all_ends(mind, knowings):
    """A dict that has all ends which some of these knowings of one procedure have."""
    found = {}
    for knowing in knowings:
        given = mind.after(knowing).get(("leave", knowing[0]))
        if given is not None:
            found[given] = True
    return found


def _has_all_behind(mind, table, left, context, knowing):
    """Whether a table has all that follows from a knowing of a context; `left` has all ends by contexts."""
    name = knowing[0]
    after = mind.after(knowing)
    for line in after:
        if line[0] in ("ask", "say") and (name, after[line]) not in table[context]:
            return False
        if line[0] == "enter":
            kept = (name, after[line])
            inner = mind.context_given(kept)
            if inner not in table:
                return False
            if not all([mind.joined_back(kept, given) in table[context] for given in left[inner]]):
                return False
    return True
