"""Closed tables as the tests make them: from the knowings of the interface alone, until nothing more follows."""

from showncalls.know.knowings import ends, entered, first_knowing, joined, spoken


def main_context(program):
    return (program.main, program.begins(program.main))


def grown(program, extra=()):
    """The least closed table that has these extra pairs of a context and a knowing."""
    found = {}
    for context in [main_context(program)] + [context for context, knowing in extra]:
        found.setdefault(context, {first_knowing(program, *context)})
    for context, knowing in extra:
        found[context].add(knowing)
    before = None
    while before != {context: len(found[context]) for context in found}:
        before = {context: len(found[context]) for context in found}
        for context in list(found):
            for knowing in list(found[context]):
                found[context].update(spoken(program, knowing).values())
                for name, (kept, begins) in entered(program, knowing).items():
                    inner = (name, begins)
                    found.setdefault(inner, {first_knowing(program, name, begins)})
                    for last in list(found[inner]):
                        given = ends(program, last)
                        if given:
                            found[context].add(joined(program, kept, name, given))
    return {context: tuple(sorted(found[context])) for context in sorted(found)}


def bent(table):
    """Tables that are not the least one any more: each has a context, a knowing or a pair less."""
    for context in table:
        yield {one: table[one] for one in table if one != context}
        for knowing in table[context]:
            fewer = tuple(one for one in table[context] if one != knowing)
            if fewer:
                yield {**table, context: fewer}
            name, pairs = knowing
            for pair in pairs:
                other = (name, tuple(one for one in pairs if one != pair))
                if other[1]:
                    yield {**table, context: tuple(sorted({*fewer, other}))}


def grown_pairs(one, other, extra=()):
    """The least dict that has these extra pairs of a triple and a pair of knowings, and all that follows from what it
    has by lines that come next on both sides."""
    start = (one.main, one.begins(one.main), other.begins(other.main))
    found = {}
    for triple in [start] + [triple for triple, pair in extra]:
        found.setdefault(triple, {first_pair(one, other, triple)})
    for triple, pair in extra:
        found[triple].add(pair)
    before = None
    while before != {triple: len(found[triple]) for triple in found}:
        before = {triple: len(found[triple]) for triple in found}
        for triple in list(found):
            for pair in list(found[triple]):
                for needed, inner in behind_pair(one, other, triple, pair, found):
                    found.setdefault(needed, {first_pair(one, other, needed)})
                    found[needed].update([inner] if inner else [])
    return {triple: tuple(sorted(found[triple])) for triple in sorted(found)}


def first_pair(one, other, triple):
    name, begins, other_begins = triple
    return (first_knowing(one, name, begins), first_knowing(other, name, other_begins))


def behind_pair(one, other, triple, pair, table):
    """All that a closed pair table has to have, too: pairs of a triple and of a pair of knowings, or None for any."""
    said, other_said = spoken(one, pair[0]), spoken(other, pair[1])
    calls, other_calls = entered(one, pair[0]), entered(other, pair[1])
    for line in said:
        if line in other_said:
            yield triple, (said[line], other_said[line])
    for name in calls:
        if name in other_calls:
            (kept, begins), (other_kept, other_begins) = calls[name], other_calls[name]
            inner = (name, begins, other_begins)
            yield inner, None
            for last, other_last in list(table.get(inner, ())):
                given, other_given = ends(one, last), ends(other, other_last)
                if given and other_given:
                    yield triple, (joined(one, kept, name, given), joined(other, other_kept, name, other_given))


def next_lines(program, knowing):
    """All lines that can come next: those that are said or asked, the procedures that are entered, whether it can be left."""
    return [sorted(spoken(program, knowing)), sorted(entered(program, knowing)), bool(ends(program, knowing))]


def are_pairs_closed(one, other, table):
    """[14.1], from the interface alone."""
    start = (one.main, one.begins(one.main), other.begins(other.main)) if one.main == other.main else None
    if start not in table:
        return False
    for triple in table:
        if first_pair(one, other, triple) not in table[triple]:
            return False
        for pair in table[triple]:
            if next_lines(one, pair[0]) != next_lines(other, pair[1]):
                return False
            for needed, inner in behind_pair(one, other, triple, pair, table):
                if needed not in table or inner and inner not in table[needed]:
                    return False
    return True


def bent_pairs(table):
    """Pair tables that are not the least one any more: each has a triple, a pair, or a pair in a knowing less."""
    for triple in table:
        yield {one: table[one] for one in table if one != triple}
        for pair in table[triple]:
            fewer = tuple(one for one in table[triple] if one != pair)
            if fewer:
                yield {**table, triple: fewer}
            for side in (0, 1):
                name, inner = pair[side]
                for at in range(len(inner) if len(inner) > 1 else 0):
                    other = (name, inner[:at] + inner[at + 1:])
                    changed = (other, pair[1]) if side == 0 else (pair[0], other)
                    yield {**table, triple: tuple(sorted({*fewer, changed}))}
