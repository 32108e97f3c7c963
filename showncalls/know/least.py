"""The least table of a program."""

from showncalls.errors import TooMany
from showncalls.know.minds import mind_of
from showncalls.know.shortest import Shortest


def least_of(program, limit):
    """The least table of a program, which is made once: an error if it has more knowings than the limit."""
    kept = program._kept
    if "least" in kept and kept["least"].many_items() > limit or kept.get("more than", 0) >= limit:
        raise TooMany(limit)
    if "least" not in kept:
        try:
            kept["least"] = Least(mind_of(program), limit)
        except TooMany:
            kept["more than"] = limit
            raise
    return kept["least"]


def knowings_told(mind, items):
    """A dict from contexts to the ascending tuples of their knowings, as they are told."""
    found = {}
    for context, knowing in items:
        found.setdefault(context, []).append(knowing)
    told = {}
    # They are sorted by their codes, which are compared faster.
    for _, context in sorted([(mind.context_order(context), context) for context in found]):
        ascending = sorted([(mind.pairs_in(knowing), knowing) for knowing in found[context]])
        told[mind.context_told(context)] = tuple([mind.told_with(knowing, pairs) for pairs, knowing in ascending])
    return told


class Least:
    """The least table. An item is a pair of a context and of a knowing of it, by their numbers in a mind."""

    def __init__(self, mind, limit):
        self._mind = mind
        self._limit = limit
        self._items = {}
        # By context: all its ends, and all pairs (context, kept) by which it is entered.
        self._left = {}
        self._callers = {}
        self._waiting = []
        # Found when they are asked for.
        self._knowings = None
        self._logs = None
        self._find_items()

    def mind(self):
        """The mind by which contexts and knowings have their numbers."""
        return self._mind

    def items_found(self):
        """The list of all items."""
        return list(self._items)

    def many_items(self):
        """How many items there are."""
        return len(self._items)

    def is_item(self, value):
        """Whether a pair of the numbers of a context and of a knowing, or of None, is an item."""
        return value in self._items

    def many_contexts(self):
        """How many contexts they have."""
        return len(self._callers)

    @property
    def knowings(self):
        """The table, as a dict from contexts to the ascending tuples of their knowings, as they are told."""
        if self._knowings is None:
            self._knowings = knowings_told(self._mind, list(self._items))
        return self._knowings

    def shortest_logs(self):
        """The shortest logs that lead to the items."""
        if self._logs is None:
            self._logs = Shortest(self._mind)
        return self._logs

    def _find_items(self):
        mind, items = self._mind, self._items
        self._enter(mind.main_context())
        # Those that are found first come first: so a table that is too great is soon seen to be so.
        at = 0
        while at < len(self._waiting):
            context, knowing = self._waiting[at]
            at += 1
            after = mind.after(knowing)
            for line in after:
                if line[0] == "enter":
                    self._call(context, after[line])
                elif line[0] == "leave":
                    self._leave(context, after[line])
                elif (context, after[line]) not in items:
                    self._add((context, after[line]))

    def _add(self, item):
        """Add an item that is not there."""
        if len(self._items) >= self._limit:
            raise TooMany(self._limit)
        self._items[item] = True
        self._waiting.append(item)

    def _enter(self, context):
        if context not in self._callers:
            self._callers[context] = {}
            self._left[context] = {}
            self._add((context, self._mind.first(context)))

    def _call(self, context, kept):
        inner = self._mind.context_given(kept)
        self._enter(inner)
        if (context, kept) not in self._callers[inner]:
            self._callers[inner][context, kept] = True
            for given in list(self._left[inner]):
                self._join(context, kept, given)

    def _leave(self, context, given):
        if given not in self._left[context]:
            self._left[context][given] = True
            for outer, kept in list(self._callers[context]):
                self._join(outer, kept, given)

    def _join(self, context, kept, given):
        item = (context, self._mind.joined_back(kept, given))
        if item not in self._items:
            self._add(item)
