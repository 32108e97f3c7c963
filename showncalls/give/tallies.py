"""Tallies: how many logs with so many lines lead to each knowing of the least table."""

from showncalls.give.kinds import counted, kinds_in, kinds_of, shown_by
from showncalls.know.least import least_of
from showncalls.know.tables import MAX_KNOWINGS


def tally_of(program):
    """The tally of a program, which is made once."""
    if "tally" not in program._kept:
        least = least_of(program, MAX_KNOWINGS)
        program._kept["tally"] = Tally(least.mind(), least.items_found())
    return program._kept["tally"]


class Tally:
    """All logs of a program with so many lines, counted, as far as it is asked for.

    Within a call, lines are counted from those behind its enter line, and only such as leave no inner call open. Items
    of the least table to which there surely are equally many rows of lines are of one kind, and each kind is counted
    once. A row of counts has one for each number of lines.
    """

    def __init__(self, mind, items):
        self._mind = mind
        # By item: those items from which it is reached by one line that is said or asked, and the pairs of the items at
        # an enter line and of those at a leave line from which it is joined.
        self._ahead = {item: [] for item in items}
        self._joins = {item: [] for item in items}
        # By pairs of a context and of what is kept at an enter line, or of ends at a leave line: the items there.
        self._kept = {}
        self._left = {}
        self._gather()
        firsts = {(context, mind.first(context)): 1 for context, knowing in items}
        self._kinds = kinds_of({item: firsts.get(item, 0) for item in items}, self._told_of_item)
        # By kind: an item of it, and the row of counts. By ascending tuples of kinds: the row of all of them together,
        # and the same without the zeros at its end.
        shown = shown_by(self._kinds)
        self._inside = [[] for item in shown]
        self._rows = {}
        # The pairs of rows whose products are wanted, and for each kind what it comes of.
        self._pairs = {}
        self._first_counts = [firsts.get(item, 0) for item in shown]
        self._parts = [self._parts_of(item) for item in shown]
        # By context: the pairs of a context from which it is entered and of the kinds there.
        self._entered = {context: [] for context, knowing in items}
        for context, kept in self._kept:
            entering = (context, kinds_in(self._kept[context, kept], self._kinds))
            self._entered[mind.context_given(kept)].append(entering)
        self._entering, self._context_kinds = self._found_entering()
        # By kind of contexts: the row of how many logs of so many lines, from 1 on, end with the enter line of a call
        # with one such context.
        self._leads = [[] for entering in self._entering]
        self._lines = 0

    def total(self, many, is_wanted=None):
        """How many logs have just so many lines, where what can stand there, ascending standings, is wanted, if this is
        asked."""
        if many == 0:
            return 0
        for lines in range(self._lines, many):
            self._count(lines)
            self._count_leads(lines)
        self._lines = max(self._lines, many)
        found = 0
        for item in self._kinds:
            if is_wanted is None or is_wanted(self._mind.standings_in(item[1])):
                row = self._inside[self._kinds[item]]
                found += _product(self._leads[self._context_kinds[item[0]]], row[many - 1::-1])
        main = self._mind.main_context()
        for context, ends in self._left:
            # Ahead of the leave line there are as many lines, without the enter line and itself.
            if context == main and many > 1 and (is_wanted is None or is_wanted(self._mind.standings_in(ends))):
                found += sum([self._inside[self._kinds[item]][many - 2] for item in self._left[context, ends]])
        return found

    def _gather(self):
        """Find out from where each item is reached."""
        for item in self._ahead:
            after = self._mind.after(item[1])
            for line in after:
                pair = (item[0], after[line])
                if line[0] == "enter":
                    self._kept.setdefault(pair, []).append(item)
                elif line[0] == "leave":
                    self._left.setdefault(pair, []).append(item)
                else:
                    self._ahead[pair].append(item)
        left = {context: [] for context, knowing in self._ahead}
        for context, ends in self._left:
            left[context].append(ends)
        for context, kept in self._kept:
            inner = self._mind.context_given(kept)
            for ends in left[inner]:
                joined = (context, self._mind.joined_back(kept, ends))
                self._joins[joined].append((self._kept[context, kept], self._left[inner, ends]))

    def _told_of_item(self, item, kinds):
        """From which kinds an item is reached."""
        joins = sorted([(kinds_in(kept, kinds), kinds_in(left, kinds)) for kept, left in self._joins[item]])
        return (kinds_in(self._ahead[item], kinds), tuple(joins))

    def _told_of_context(self, context, kinds):
        """From which kinds of contexts, and with which rows, a context is entered."""
        return (tuple(sorted([(kinds[outer], row) for outer, row in self._entered[context]])),)

    def _parts_of(self, item):
        """The rows of the kinds from which an item is reached by one line, and the indices of the pairs of rows from
        which it is joined."""
        joins = [(kinds_in(kept, self._kinds), kinds_in(left, self._kinds)) for kept, left in self._joins[item]]
        found = []
        while joins:
            # Rows that are multiplied by one and the same are put together first.
            times = counted([row for pair in joins for row in sorted({pair[0], pair[1]})])
            most = max([(times[row], row) for row in times])[1]
            others = [other if one == most else one for one, other in joins if most in (one, other)]
            joins = [pair for pair in joins if most not in pair]
            pair = (self._row_of(most), self._row_of(tuple(sorted([kind for row in others for kind in row]))))
            found.append(self._pairs.setdefault(pair, len(self._pairs)))
        return ([self._inside[kind] for kind in kinds_in(self._ahead[item], self._kinds)], found)

    def _row_of(self, kinds):
        """An ascending tuple of kinds, which then has a row."""
        if kinds not in self._rows:
            # That of a single kind is its own one.
            self._rows[kinds] = (self._inside[kinds[0]] if len(kinds) == 1 else [], [])
        return kinds

    def _found_entering(self):
        """The kinds of contexts; and for each of them pairs of a kind from which it is entered and of the row there."""
        main = self._mind.main_context()
        kinds = kinds_of({context: 1 if context == main else 0 for context in self._entered}, self._told_of_context)
        found = []
        for context in shown_by(kinds):
            rows = {}
            for outer, row in self._entered[context]:
                rows[kinds[outer]] = rows.get(kinds[outer], ()) + row
            found.append([(outer, self._row_of(tuple(sorted(rows[outer])))) for outer in rows])
        return found, kinds

    def _count(self, lines):
        """Count the rows of so many lines to all kinds."""
        counts = self._first_counts
        if lines > 0:
            # Between both rows there are the enter line and the leave line.
            products = [_product_of(self._rows[one], self._rows[other], lines - 2) for one, other in self._pairs]
            counts = [sum([ahead[-1] for ahead in rows_ahead]) + sum([products[at] for at in joins])
                      for rows_ahead, joins in self._parts]
        for row, many in zip(self._inside, counts):
            row.append(many)
        for kinds in self._rows:
            row, trimmed = self._rows[kinds]
            if len(kinds) > 1:
                row.append(sum([counts[kind] for kind in kinds]))
            if row[-1]:
                trimmed.extend(row[len(trimmed):])

    def _count_leads(self, lines):
        """Count the logs of one more line than so many that end with an enter line, for all kinds of contexts."""
        counts = [0] * len(self._leads)
        counts[self._context_kinds[self._mind.main_context()]] = 1
        if lines > 0:
            leads = [row[lines - 1::-1] for row in self._leads]
            counts = [sum([_product(self._rows[kinds][1], leads[outer]) for outer, kinds in entering])
                      for entering in self._entering]
        for row, many in zip(self._leads, counts):
            row.append(many)


def _product_of(one, other, last):
    """The sum of the products of the counts of two rows, each with itself without the zeros at its end, for so many
    lines together."""
    if last < 0:
        return 0
    if one != other:
        shorter, longer = (one, other) if len(one[1]) <= len(other[1]) else (other, one)
        return _product(shorter[1], longer[0][last::-1])
    # Of the same row each product is there twice, but for the one in the middle.
    row = one[0]
    half = (last + 1) // 2
    middle = row[half] * row[half] if last == half + half else 0
    return 2 * _product(row[:half], row[last::-1]) + middle


def _product(row, counts):
    """The sum of the products of the counts of a row and of others, as far as there are both."""
    return sum([one * other for one, other in zip(row, counts)])
