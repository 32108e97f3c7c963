"""Tallies: how many logs with so many lines lead to each knowing of the least table."""


class Tally:
    """All logs of a program with at most so many lines, counted.

    Within a call, lines are counted from those behind its enter line, and only such as leave no inner call open. All
    lists below have an entry for each number of lines.
    """

    def __init__(self, mind, contexts, many):
        self._mind = mind
        self._many = many
        # By context: dicts from coded knowings, and from what is kept at the enter lines that can come next, and from
        # what is given by the leave line at the end, to how many rows of so many lines lead there.
        self._inside = {context: [] for context in contexts}
        self._kept = {context: [] for context in contexts}
        self._left = {context: [{}] for context in contexts}
        # By context: how many logs of so many lines end with the enter line of a call with this context.
        self._leads = {context: [0] * (many + 2) for context in contexts}
        for lines in range(many):
            for context in contexts:
                self._count_inside(context, lines)
        self._count_leads()

    def total(self, is_wanted):
        """How many logs have just so many lines, if what can stand there is wanted: ascending standings."""
        found = 0
        for context in self._inside:
            for lines in range(self._many):
                leads = self._leads[context][self._many - lines]
                if leads > 0:
                    found += leads * self._wanted(self._inside[context][lines], is_wanted)
        if self._many == 0:
            return 0
        main = self._mind.main_context()
        ended = self._left[main][self._many - 1]
        given = {(main[0], pairs): ended[pairs] for pairs in ended}
        return found + self._wanted(given, is_wanted)

    def _wanted(self, counts, is_wanted):
        """How many of the rows lead to a knowing, or to ends, with wanted standings."""
        wanted = [knowing for knowing in counts if is_wanted(self._mind.standings_in(knowing[0], knowing[1]))]
        return sum([counts[knowing] for knowing in wanted])

    def _count_inside(self, context, lines):
        """Count the rows of so many lines within a context, and those of one more line that leave it."""
        inside = {}
        if lines == 0:
            inside[self._mind.first(context)] = 1
        else:
            ahead = self._inside[context][lines - 1]
            for knowing in ahead:
                after = self._mind.after(knowing)
                for line in after:
                    if line[0] in ("ask", "say"):
                        _add(inside, (context[0], after[line]), ahead[knowing])
            self._count_joined(context, lines, inside)
        kept, left = {}, {}
        for knowing in inside:
            after = self._mind.after(knowing)
            for line in after:
                if line[0] == "enter":
                    _add(kept, (context[0], after[line]), inside[knowing])
                elif line[0] == "leave":
                    _add(left, after[line], inside[knowing])
        self._inside[context].append(inside)
        self._kept[context].append(kept)
        self._left[context].append(left)

    def _count_joined(self, context, lines, inside):
        """Count the rows whose last line is the leave of an inner call."""
        for ahead in range(lines - 1):
            entered_by = self._kept[context][ahead]
            for kept in entered_by:
                # Between both there is the enter line.
                left = self._left[self._mind.context_given(kept)][lines - ahead - 1]
                for given in left:
                    _add(inside, self._mind.joined_back(kept, given), entered_by[kept] * left[given])

    def _count_leads(self):
        self._leads[self._mind.main_context()][1] = 1
        for ahead in range(1, self._many):
            for context in self._leads:
                leads = self._leads[context][ahead]
                for lines in range(self._many - ahead if leads > 0 else 0):
                    entered_by = self._kept[context][lines]
                    for kept in entered_by:
                        inner = self._mind.context_given(kept)
                        self._leads[inner][ahead + lines + 1] += leads * entered_by[kept]


def _add(counts, key, many):
    counts[key] = counts.get(key, 0) + many
