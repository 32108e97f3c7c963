"""Pairs of a begin and a state of a procedure as the bits of numbers."""

from showncalls.know.codes import bits_of


class Grid:
    """For each begin, by its index, there is a row, and in it a bit for each state."""

    def __init__(self, many_states, begins):
        self._many_states = many_states
        # The codes of the begins, and their indices.
        self._begins = begins
        self._indices = {begin: at for at, begin in enumerate(begins)}
        self._first_column = 0
        for at in range(len(begins)):
            self._first_column = self._first_column | 1 << at * many_states

    def all_indices(self):
        """The mask of the indices of all begins."""
        return (1 << len(self._begins)) - 1

    def indices(self):
        """A dict from the codes of the begins to their indices."""
        return self._indices

    def index_of(self, begin):
        """The index of a begin."""
        return self._indices[begin]

    def begins(self):
        """The ascending list of the codes of the begins."""
        return self._begins

    def begin_at(self, index):
        """The code of the begin with an index."""
        return self._begins[index]

    def in_all_rows(self, states):
        """All pairs with some states."""
        return states * self._first_column

    def first_pairs(self, indices):
        """The pairs of some begins, by the mask of their indices, each with its own state."""
        mask = 0
        for index in bits_of(indices):
            mask = mask | 1 << index * self._many_states + self._begins[index]
        return mask

    def states_in(self, mask):
        """The mask of the states in all rows."""
        many = len(self._begins)
        while many > 1:
            # The upper half of the rows is laid upon the lower one.
            many = (many + 1) // 2
            mask = mask & (1 << many * self._many_states) - 1 | mask >> many * self._many_states
        return mask

    def rows_of(self, mask):
        """The ascending list of pairs of the code of a begin and the mask of the states in its row, if it has any."""
        row = (1 << self._many_states) - 1
        found = []
        while mask:
            index = ((mask & -mask).bit_length() - 1) // self._many_states
            states = mask >> index * self._many_states & row
            found.append((self._begins[index], states))
            mask = mask ^ states << index * self._many_states
        return found

    def is_begin(self, code):
        """Whether this is the code of a begin."""
        return code in self._indices

    def rows_with(self, mask, state):
        """The first pairs of all rows that have a state."""
        return mask >> state & self._first_column

    def pair_of(self, begin, state):
        """The pair of a begin, by its code, and of a state."""
        return 1 << self._indices[begin] * self._many_states + state
