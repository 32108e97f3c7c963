"""Pairs of knowings: where two programs are at one and the same log."""

from showncalls.base.checks import ascends


class PairMind:
    """What lines that both of two programs can write make of pairs of their knowings. Both call main by one name.

    Pairs of contexts and of knowings, by their numbers in both minds, are used just as those of one mind.
    """

    def __init__(self, mind, other_mind):
        self._mind = mind
        self._other_mind = other_mind

    def called_in(self, context):
        """The name of the procedure of both contexts."""
        return self._mind.called_in(context[0])

    def main_context(self):
        """The pair of both contexts of main."""
        return (self._mind.main_context(), self._other_mind.main_context())

    def first(self, context):
        """The pair of both first knowings."""
        return (self._mind.first(context[0]), self._other_mind.first(context[1]))

    def after(self, knowing):
        """A dict from all lines that come next on both sides, ascending, to what they lead to on both."""
        after, other_after = self._mind.after(knowing[0]), self._other_mind.after(knowing[1])
        return {line: (after[line], other_after[line]) for line in after if line in other_after}

    def context_given(self, kept):
        """The pair of the contexts that both enter."""
        return (self._mind.context_given(kept[0]), self._other_mind.context_given(kept[1]))

    def joined_back(self, kept, ends):
        """The pair of both joined knowings."""
        return (self._mind.joined_back(kept[0], ends[0]), self._other_mind.joined_back(kept[1], ends[1]))

    def lines_apart(self, knowing):
        """The ascending list of the lines that come next on one side alone."""
        after, other_after = self._mind.after(knowing[0]), self._other_mind.after(knowing[1])
        if list(after) == list(other_after):
            return []
        return sorted([line for line in after if line not in other_after]
                      + [line for line in other_after if line not in after])

    def context_told(self, context):
        """A pair of contexts, as it is told: a triple."""
        name, begins = self._mind.context_told(context[0])
        return (name, begins, self._other_mind.context_told(context[1])[1])

    def told_with(self, knowing, pairs):
        """A pair of knowings, as it is told, with all pairs of both."""
        return (self._mind.told_with(knowing[0], pairs[0]), self._other_mind.told_with(knowing[1], pairs[1]))

    def context_order(self, context):
        """What sorts pairs of contexts in the order in which they are told."""
        return (self._mind.context_order(context[0]), self._other_mind.context_order(context[1]))

    def pairs_in(self, knowing):
        """The ascending lists of the pairs of both."""
        return (self._mind.pairs_in(knowing[0]), self._other_mind.pairs_in(knowing[1]))

    def order_coded(self, item):
        """What decides between pairs of contexts and of knowings where any of them will do."""
        context, pairs = self._mind.order_coded((item[0][0], item[1][0]))
        other_context, other_pairs = self._other_mind.order_coded((item[0][1], item[1][1]))
        return (context, other_context, pairs, other_pairs)

    def pair_table_read(self, value):
        """A pair table that is told, as a dict from pairs of contexts to dicts with pairs of knowings as keys, all by
        their numbers; or None if the value is none by its form."""
        if not isinstance(value, dict):
            return None
        table = {}
        for told in value:
            context = self._triple_read(told)
            pairs = None if context is None else self._pairs_read(context, value[told])
            if pairs is None:
                return None
            table[context] = pairs
        return table

    def _triple_read(self, value):
        """The pair of contexts of a triple that is told, or None if it is none by its form."""
        if not isinstance(value, tuple) or len(value) != 3:
            return None
        context = self._mind.context_read(value[:2])
        other_context = self._other_mind.context_read((value[0], value[2]))
        return None if context is None or other_context is None else (context, other_context)

    def _pairs_read(self, context, value):
        """A dict with pairs of knowings as keys that a pair of contexts can have, or None if they are no ascending
        tuple, at least one."""
        if not isinstance(value, tuple) or not all([isinstance(told, tuple) and len(told) == 2 for told in value]):
            return None
        ones = self._mind.knowings_read(context[0], tuple([told[0] for told in value]))
        others = self._other_mind.knowings_read(context[1], tuple([told[1] for told in value]))
        if ones is None or others is None or not ascends(value):
            return None
        return {pair: True for pair in zip(ones, others)}
