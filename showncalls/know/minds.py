"""How knowings follow from one another, on the codes of nows."""

from showncalls.base.facts import Fact
from showncalls.know.codes import bits_of, mask_of
from showncalls.know.walks import walks_of

# So many answers of each kind are kept; then all of them are found anew, when they are asked for.
MOST_KEPT = 20000


def mind_of(program):
    """The mind of a program, which is made once."""
    if "mind" not in program._kept:
        program._kept["mind"] = Mind(program)
    return program._kept["mind"]


class Mind:
    """What lines make of the knowings of a program.

    A coded knowing is a pair (procedure, pairs), with a pair (code of a begin, mask of the codes of nows) for each of
    its begins, ascending. A coded context is a pair (procedure, ascending tuple of the codes of begins).
    """

    def __init__(self, program):
        self._program = program
        self._walks = walks_of(program)
        self._main_context = self._searched_context((program.main, program.begins(program.main)))
        # What has been worked out: logs and tables come to the same knowings again and again.
        self._lines_at = {}
        self._after = {}
        self._contexts = {}
        self._joined = {}
        self._coded = {}
        self._coded_contexts = {}
        self._decoded = {}
        self._firsts = {}
        self._standings_in = {}
        self._facts_with = {}

    def coded(self, knowing):
        """A knowing, which surely is one, coded."""
        if knowing not in self._coded:
            _make_room(self._coded)
            self._coded[knowing] = self._searched_coded(knowing)
        return self._coded[knowing]

    def _searched_coded(self, knowing):
        name, pairs = knowing
        codes = self._walks.codes_of(name)
        masks = {}
        for begin, now in pairs:
            code = codes.code_of((0,) + begin)
            masks[code] = masks.get(code, 0) | 1 << codes.code_of(now)
        return (name, tuple([(code, masks[code]) for code in sorted(masks)]))

    def told_of(self, knowing):
        """A coded knowing, as it is told, kept for the next time."""
        if knowing not in self._decoded:
            _make_room(self._decoded)
            self._decoded[knowing] = self.decoded(knowing)
        return self._decoded[knowing]

    def decoded(self, knowing):
        """A coded knowing, as it is told."""
        name, pairs = knowing
        codes = self._walks.codes_of(name)
        return (name, tuple([(codes.now_of(begin)[1:], codes.now_of(code)) for begin, mask in pairs
                             for code in bits_of(mask)]))

    def coded_context(self, context):
        """A context, which surely is one, coded."""
        if context not in self._coded_contexts:
            _make_room(self._coded_contexts)
            self._coded_contexts[context] = self._searched_context(context)
        return self._coded_contexts[context]

    def _searched_context(self, context):
        name, begins = context
        codes = self._walks.codes_of(name)
        return (name, tuple([codes.code_of((0,) + begin) for begin in begins]))

    def decoded_begins(self, name, begins):
        """Some begins by their codes."""
        codes = self._walks.codes_of(name)
        return tuple([codes.now_of(begin)[1:] for begin in begins])

    def main_context(self):
        """The coded context of main."""
        return self._main_context

    def first(self, context):
        """The knowing in which each begin of a context is its own now."""
        if context not in self._firsts:
            _make_room(self._firsts)
            self._firsts[context] = (context[0], tuple([(begin, 1 << begin) for begin in context[1]]))
        return self._firsts[context]

    def after(self, knowing):
        """A dict from all lines that can come next, ascending, to pairs as those of a knowing: of the knowing behind
        a line that is said or asked, of those that are kept behind an enter, of the begins and the ends at a leave."""
        if knowing not in self._after:
            _make_room(self._after)
            self._after[knowing] = self._found_after(knowing)
        return self._after[knowing]

    def context_given(self, kept):
        """The coded context of the new call, if a knowing is kept."""
        if kept not in self._contexts:
            _make_room(self._contexts)
            name, pairs = kept
            calls = [self._walks.stop(name, code)[1] for begin, mask in pairs for code in bits_of(mask)]
            self._contexts[kept] = (calls[0][0], tuple(sorted({begin for called, begin in calls})))
        return self._contexts[kept]

    def joined_back(self, kept, ends):
        """The knowing joined of one that is kept and of the ends of the call that it has entered, by their codes."""
        if (kept, ends) not in self._joined:
            _make_room(self._joined)
            self._joined[kept, ends] = self._found_joined(kept, ends)
        return self._joined[kept, ends]

    def standings_in(self, name, pairs):
        """The ascending tuple of the standings of all nows in the pairs of a knowing, or of ends."""
        if (name, pairs) not in self._standings_in:
            _make_room(self._standings_in)
            codes = self._walks.codes_of(name)
            found = sorted({codes.now_of(code)[1] for begin, mask in pairs for code in bits_of(mask)})
            self._standings_in[name, pairs] = tuple(found)
        return self._standings_in[name, pairs]

    def fact_with(self, standings):
        """The fact with some standings, an ascending tuple."""
        if standings not in self._facts_with:
            _make_room(self._facts_with)
            self._facts_with[standings] = Fact(self._program.shared, standings)
        return self._facts_with[standings]

    def lines_from(self, name, code):
        """A dict from all lines that can come next at a now to masks of codes, as of the pairs of `after`."""
        if (name, code) not in self._lines_at:
            found = {}
            for reached in self._walks.silently_from(name, code):
                for line, behind in self._lines_written(name, reached):
                    found[line] = found.get(line, 0) | 1 << behind
            self._lines_at[name, code] = found
        return self._lines_at[name, code]

    def call_at(self, name, code):
        """The pair (procedure, code of the begin) of the call at a now."""
        return self._walks.stop(name, code)[1]

    def behind_call(self, name, call, called, end):
        """The code of the now behind a call, if the procedure that is called ends with this code."""
        return self._walks.given_back(name, call, called, end)

    def _found_joined(self, kept, ends):
        name, pairs = kept
        given = {begin: bits_of(mask) for begin, mask in ends}
        found = []
        for begin, mask in pairs:
            behind = []
            for call in bits_of(mask):
                called, inner = self._walks.stop(name, call)[1]
                behind.extend([self._walks.given_back(name, call, called, end) for end in given.get(inner, [])])
            if behind:
                found.append((begin, mask_of(behind)))
        return (name, tuple(found))

    def _found_after(self, knowing):
        name, pairs = knowing
        found = {}
        for begin, mask in pairs:
            lines = {}
            for code in bits_of(mask):
                at = self.lines_from(name, code)
                for line in at:
                    lines[line] = lines.get(line, 0) | at[line]
            for line in lines:
                found.setdefault(line, []).append((begin, lines[line]))
        return {line: tuple(found[line]) for line in sorted(found)}

    def _lines_written(self, name, code):
        """The list of pairs of a line and a code for all moves at a now that write a line."""
        kind, found = self._walks.stop(name, code)
        if kind == "leave":
            return [(("leave", name), code)]
        if kind == "move":
            return [(line, behind) for line, behind in found if line is not None]
        return [] if self._program[found[0]].quiet else [(("enter", found[0]), code)]


def _make_room(kept):
    """Empty a dict of answers that has become too great."""
    if len(kept) >= MOST_KEPT:
        kept.clear()
