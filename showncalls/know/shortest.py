"""The shortest logs that lead to the knowings of the least table of a program."""

from heapq import heappop, heappush

from showncalls.know.spelling import spelled


class Shortest:
    """The shortest logs that lead to the items of a least table."""

    def __init__(self, mind):
        self._mind = mind
        # By item: the least number of lines behind the enter line of the call that has been found so far.
        self._reached = {}
        # By item: this number, and the parts of these lines, which are other items and lines. By context: the same for
        # a log up to the enter line, with contexts among the parts.
        self._costs = {}
        self._leads = {}
        self._parts = {}
        # By context: the shortest item for all its ends, and for all pairs (context, kept) by which it is entered.
        self._left = {}
        self._callers = {}
        self._queue = []
        self._pushed = 0
        self._add_items()
        self._add_leads()

    def items_found(self):
        """The list of all items."""
        return list(self._costs)

    def lines_to(self, item):
        """The least number of lines of a log that leads to an item."""
        return self._leads[item[0]] + self._costs[item]

    def log_to(self, item):
        """A log with so few lines that leads to an item."""
        return tuple(spelled([item[0], item], self._parts))

    def _add_items(self):
        self._enter_context(self._mind.main_context())
        # Costs count from the enter line of their own call. A new context starts in the middle with low costs, which
        # come first, before any item that follows from its ends; so what comes out of the queue first costs least.
        while self._queue:
            cost, _, item, parts = heappop(self._queue)
            if item not in self._costs:
                self._costs[item] = cost
                self._parts[item] = parts
                self._go_on(item, cost)

    def _enter_context(self, context):
        if context not in self._callers:
            self._callers[context] = {}
            self._left[context] = {}
            self._reach((context, self._mind.first(context)), 0, ())

    def _reach(self, item, cost, parts):
        known = self._reached.get(item)
        # Of equal costs those that come first count.
        if known is None or cost < known:
            self._reached[item] = cost
            # The second number decides between equal costs, so that nothing else is compared.
            heappush(self._queue, (cost, self._pushed, item, parts))
            self._pushed += 1

    def _go_on(self, item, cost):
        context, knowing = item
        after = self._mind.after(knowing)
        for line in after:
            if line[0] == "enter":
                self._call(item, after[line])
            elif line[0] == "leave":
                self._leave(item, after[line])
            else:
                self._reach((context, after[line]), cost + 1, (item, line))

    def _call(self, item, kept):
        inner = self._mind.context_given(kept)
        self._enter_context(inner)
        # An item that is found later leads to nothing else, and to this on no shorter way.
        if (item[0], kept) not in self._callers[inner]:
            self._callers[inner][item[0], kept] = item
            for given in list(self._left[inner]):
                self._join(item, kept, self._left[inner][given], given)

    def _leave(self, item, given):
        left = self._left[item[0]]
        if given not in left:
            left[given] = item
            callers = self._callers[item[0]]
            for outer, kept in list(callers):
                self._join(callers[outer, kept], kept, item, given)

    def _join(self, item, kept, inner, given):
        name = self._mind.called_in(inner[0])
        cost = self._costs[item] + self._costs[inner] + 2
        parts = (item, ("enter", name), inner, ("leave", name))
        self._reach((item[0], self._mind.joined_back(kept, given)), cost, parts)

    def _add_leads(self):
        """Find the shortest log to each context."""
        calls = {context: [] for context in self._callers}
        for inner in self._callers:
            for outer, kept in self._callers[inner]:
                calls[outer].append((inner, self._callers[inner][outer, kept]))
        main = self._mind.main_context()
        queue = [(1, 0, main, (("enter", self._mind.called_in(main)),))]
        while queue:
            cost, _, context, way = heappop(queue)
            if context not in self._leads:
                self._leads[context] = cost
                self._parts[context] = way
                for inner, item in calls[context]:
                    self._pushed += 1
                    parts = (context, item, ("enter", self._mind.called_in(inner)))
                    heappush(queue, (cost + self._costs[item] + 1, self._pushed, inner, parts))
