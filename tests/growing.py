"""Closed tables as the tests make them: from the knowings of the interface alone, until nothing more follows."""

from showncalls.know.knowings import ends, entered, first_knowing, joined, spoken


def main_context(program):
    return (program.main, program.begins(program.main))


def grown(program, extra=()):
    """The least closed table that has these extra pairs of a context and a knowing."""
    found = {}
    for context in [main_context(program)] + [context for context, knowing in extra]:
        found.setdefault(context, {first_knowing(program, *context)})
    for context, knowing in extra:
        found[context].add(knowing)
    before = None
    while before != {context: len(found[context]) for context in found}:
        before = {context: len(found[context]) for context in found}
        for context in list(found):
            for knowing in list(found[context]):
                found[context].update(spoken(program, knowing).values())
                for name, (kept, begins) in entered(program, knowing).items():
                    inner = (name, begins)
                    found.setdefault(inner, {first_knowing(program, name, begins)})
                    for last in list(found[inner]):
                        given = ends(program, last)
                        if given:
                            found[context].add(joined(program, kept, name, given))
    return {context: tuple(sorted(found[context])) for context in sorted(found)}


def bent(table):
    """Tables that are not the least one any more: each has a context, a knowing or a pair less."""
    for context in table:
        yield {one: table[one] for one in table if one != context}
        for knowing in table[context]:
            fewer = tuple(one for one in table[context] if one != knowing)
            if fewer:
                yield {**table, context: fewer}
            name, pairs = knowing
            for pair in pairs:
                other = (name, tuple(one for one in pairs if one != pair))
                if other[1]:
                    yield {**table, context: tuple(sorted({*fewer, other}))}
