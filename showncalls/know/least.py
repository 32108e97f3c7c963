"""The least table of a program, and the shortest logs that lead to its knowings."""

from heapq import heappop, heappush

from showncalls.errors import TooMany
from showncalls.know.minds import mind_of
from showncalls.know.spelling import spelled


def least_of(program, limit):
    """The least table of a program, which is made once: an error if it has more knowings than the limit."""
    kept = program._kept
    if "least" in kept and len(kept["least"].items_found()) > limit or kept.get("more than", 0) >= limit:
        raise TooMany(limit)
    if "least" not in kept:
        try:
            kept["least"] = Least(mind_of(program), limit)
        except TooMany:
            kept["more than"] = limit
            raise
    return kept["least"]


class Least:
    """The least table. An item is a pair of a coded context and of a coded knowing of it."""

    def __init__(self, mind, limit):
        self._mind = mind
        self._limit = limit
        self._reached = {}
        # By item: the least number of lines behind the enter line of the call, and the parts of these lines, which are
        # other items and lines. By context: the same for a log up to this enter line, with contexts among the parts.
        self._costs = {}
        self._leads = {}
        self._parts = {}
        # By context: the shortest item for all its ends, and for all pairs (context, kept) by which it is entered.
        self._left = {}
        self._callers = {}
        self._queue = []
        self._pushed = 0
        self._add_items()
        self._add_leads()

    def items_found(self):
        """The list of all items."""
        return list(self._costs)

    def lines_to(self, item):
        """The least number of lines of a log that leads to an item."""
        return self._leads[item[0]] + self._costs[item]

    def log_to(self, item):
        """A log with so few lines that leads to an item."""
        return tuple(spelled([item[0], item], self._parts))

    def _add_items(self):
        self._enter_context(self._mind.main_context())
        # Costs count from the enter line of their own call. A new context starts in the middle with low costs, which
        # come first, before any item that follows from its ends; so what comes out of the queue first costs least.
        while self._queue:
            cost, _, item, parts = heappop(self._queue)
            if item not in self._costs:
                self._costs[item] = cost
                self._parts[item] = parts
                self._go_on(item)

    def _enter_context(self, context):
        if context not in self._callers:
            self._callers[context] = {}
            self._left[context] = {}
            self._reach((context, self._mind.first(context)), 0, ())

    def _reach(self, item, cost, parts):
        if item not in self._reached:
            if len(self._reached) >= self._limit:
                raise TooMany(self._limit)
            self._reached[item] = True
        if item not in self._costs:
            # The second number decides between equal costs, so that nothing else is compared.
            heappush(self._queue, (cost, self._pushed, item, parts))
            self._pushed += 1

    def _go_on(self, item):
        context, knowing = item
        after = self._mind.after(knowing)
        for line in after:
            if line[0] == "enter":
                self._call(item, (knowing[0], after[line]))
            elif line[0] == "leave":
                self._leave(item, after[line])
            else:
                self._reach((context, (knowing[0], after[line])), self._costs[item] + 1, (item, line))

    def _call(self, item, kept):
        inner = self._mind.context_given(kept)
        self._enter_context(inner)
        # An item that is found later leads to nothing else, and to this on no shorter way.
        if (item[0], kept) not in self._callers[inner]:
            self._callers[inner][item[0], kept] = item
            for given in list(self._left[inner]):
                self._join(item, kept, self._left[inner][given], given)

    def _leave(self, item, given):
        left = self._left[item[0]]
        if given not in left:
            left[given] = item
            callers = self._callers[item[0]]
            for outer, kept in list(callers):
                self._join(callers[outer, kept], kept, item, given)

    def _join(self, item, kept, inner, given):
        name = inner[0][0]
        cost = self._costs[item] + self._costs[inner] + 2
        parts = (item, ("enter", name), inner, ("leave", name))
        self._reach((item[0], self._mind.joined_back(kept, given)), cost, parts)

    def _add_leads(self):
        """Find the shortest log to each context."""
        calls = {context: [] for context in self._callers}
        for inner in self._callers:
            for outer, kept in self._callers[inner]:
                calls[outer].append((inner, self._callers[inner][outer, kept]))
        main = self._mind.main_context()
        queue = [(1, 0, main, (("enter", main[0]),))]
        while queue:
            cost, _, context, parts = heappop(queue)
            if context not in self._leads:
                self._leads[context] = cost
                self._parts[context] = parts
                for inner, item in calls[context]:
                    self._pushed += 1
                    longer = cost + self._costs[item] + 1
                    heappush(queue, (longer, self._pushed, inner, (context, item, ("enter", inner[0]))))
