"""Pairs of knowings: where two programs are at one and the same log."""

from showncalls.base.checks import ascends
from showncalls.know.tables import is_context, is_knowing_of


class PairMind:
    """What lines that both of two programs can write make of pairs of their knowings. Both call main by one name.

    A coded pair is (procedure, (pairs, other pairs)) of two coded knowings, and a coded triple likewise of two coded
    contexts: so they are used just as the coded knowings and contexts of one program.
    """

    def __init__(self, mind, other_mind):
        self._mind = mind
        self._other_mind = other_mind

    def main_context(self):
        """The coded triple of both contexts of main."""
        name, begins = self._mind.main_context()
        return (name, (begins, self._other_mind.main_context()[1]))

    def first(self, context):
        """The pair of both first knowings."""
        name, (begins, other_begins) = context
        return (name, (self._mind.first((name, begins))[1], self._other_mind.first((name, other_begins))[1]))

    def after(self, knowing):
        """A dict from all lines that come next on both sides, ascending, to what they lead to on both."""
        after, other_after = self._both_after(knowing)
        return {line: (after[line], other_after[line]) for line in after if line in other_after}

    def context_given(self, kept):
        """The coded triple that both enter."""
        name, (pairs, other_pairs) = kept
        called, begins = self._mind.context_given((name, pairs))
        return (called, (begins, self._other_mind.context_given((name, other_pairs))[1]))

    def joined_back(self, kept, ends):
        """The pair of both joined knowings."""
        name, (pairs, other_pairs) = kept
        joined = self._mind.joined_back((name, pairs), ends[0])
        return (name, (joined[1], self._other_mind.joined_back((name, other_pairs), ends[1])[1]))

    def lines_apart(self, knowing):
        """The ascending list of the lines that come next on one side alone."""
        after, other_after = self._both_after(knowing)
        return sorted([line for line in after if line not in other_after]
                      + [line for line in other_after if line not in after])

    def coded_triple(self, triple):
        """A triple of a procedure and of its begins in both programs, coded."""
        name, begins, other_begins = triple
        coded = self._mind.coded_context((name, begins))
        return (name, (coded[1], self._other_mind.coded_context((name, other_begins))[1]))

    def decoded_triple(self, context):
        """A coded triple, as it is told."""
        name, (begins, other_begins) = context
        return (name, self._mind.decoded_begins(name, begins), self._other_mind.decoded_begins(name, other_begins))

    def coded_pair(self, pair):
        """A pair of knowings, coded."""
        name, pairs = self._mind.coded(pair[0])
        return (name, (pairs, self._other_mind.coded(pair[1])[1]))

    def decoded_pair(self, knowing):
        """A coded pair, as it is told."""
        name, (pairs, other_pairs) = knowing
        return (self._mind.decoded((name, pairs)), self._other_mind.decoded((name, other_pairs)))

    def _both_after(self, knowing):
        name, (pairs, other_pairs) = knowing
        return self._mind.after((name, pairs)), self._other_mind.after((name, other_pairs))


def is_pair_table(one, other, value):
    """Whether a value is a pair table of two programs, by its form."""
    if not isinstance(value, dict):
        return False
    return all([_is_triple(one, other, triple) and _are_pairs(one, other, triple, value[triple]) for triple in value])


def _is_triple(one, other, value):
    """Whether a value is a triple of a context of each of two programs."""
    if not isinstance(value, tuple) or len(value) != 3:
        return False
    name, begins, other_begins = value
    return is_context(one, (name, begins)) and is_context(other, (name, other_begins))


def _are_pairs(one, other, triple, value):
    """Whether a value is an ascending tuple of pairs of knowings that a triple can have, at least one."""
    if not isinstance(value, tuple) or not value or not all([_is_tuple_of_two(pair) for pair in value]):
        return False
    name, begins, other_begins = triple
    among = {begin: True for begin in begins}
    other_among = {begin: True for begin in other_begins}
    for knowing, other_knowing in value:
        if not is_knowing_of(one, name, among, knowing) or not is_knowing_of(other, name, other_among, other_knowing):
            return False
    return ascends(value)


def _is_tuple_of_two(value):
    return isinstance(value, tuple) and len(value) == 2
