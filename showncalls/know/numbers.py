"""The numbers of knowings and of contexts: what they stand for, and how it is told and read."""

from showncalls.base.checks import are_integers, ascends
from showncalls.know.codes import bits_of, mask_of
from showncalls.know.grids import Grid
from showncalls.know.tracks import tracks_of


class Numbers:
    """The knowings and the contexts that have been come to, by their numbers.

    The places of the procedures have numbers, too, their spots. A row is what a knowing is: a tuple (spot, pairs, spot,
    pairs, ..) of ascending spots with the pairs of a begin and a state that are there, as the grid of the procedure has
    them. What is kept at an enter line, and the ends at a leave line, are rows just so.
    """

    def __init__(self, program):
        tracks = tracks_of(program)
        self._tracks = tracks
        self._main = program.main
        self._heard = {procedure.called: True for procedure in program.procedures if not procedure.quiet}
        self._grids = {}
        self._lists = {}
        # By spot: the pair of a procedure and a place; and the lists of the states and of the codes of the begins.
        self._spots = {}
        self._spots_told = []
        self._spot_lists = []
        self._rows = []
        self._row_numbers = {}
        # By number of a context: the pair of a procedure and of the mask of the indices of begins; and the same lists.
        self._contexts = []
        self._context_lists = []
        self._context_numbers = {}
        # The begins of procedures, and of contexts, as they are told.
        self._begins_told = {}
        self._context_begins = {}
        self._told = {}

    def many_numbers(self):
        """How many knowings and contexts have numbers."""
        return len(self._rows) + len(self._contexts)

    def row_of(self, knowing):
        """The row of a knowing."""
        return self._rows[knowing]

    def number_of(self, row):
        """The number of the knowing with this row."""
        number = self._row_numbers.get(row)
        return self._new_number(row) if number is None else number

    def number_with(self, found):
        """The number of the knowing with these pairs, by a dict from spots."""
        return self.number_of(_row_made(found))

    def number_from(self, name, masks):
        """The number of a knowing, or of ends, by a dict from the codes of begins to the masks of those of nows."""
        many = self._tracks.many_states(name)
        found = {}
        for begin in masks:
            for code in bits_of(masks[begin]):
                place, state = divmod(code, many)
                spot = self.spot_of(name, place)
                found[spot] = found.get(spot, 0) | self.grid_of(name).pair_of(begin, state)
        return self.number_with(found)

    def context_with(self, name, indices):
        """The number of a context, by the mask of the indices of its begins."""
        context = (name, indices)
        number = self._context_numbers.get(context)
        if number is None:
            number = self._context_numbers[context] = len(self._contexts)
            self._contexts.append(context)
            self._context_lists.append(self._lists.get(name) or self._lists_of(name))
        return number

    def spot_of(self, name, place):
        """The spot of a place."""
        spot = self._spots.get((name, place))
        if spot is None:
            spot = self._spots[name, place] = len(self._spots_told)
            self._spots_told.append((name, place))
            self._spot_lists.append(self._lists.get(name) or self._lists_of(name))
        return spot

    def _lists_of(self, name):
        """The pair of the list of the states of a procedure and of that of the codes of its begins."""
        self._lists[name] = (self._tracks.codes_of(name).states_told(), self.grid_of(name).begins())
        return self._lists[name]

    def spot_told(self, spot):
        """The pair of a procedure and a place of it."""
        return self._spots_told[spot]

    def grid_of(self, name):
        """The grid of a procedure."""
        grid = self._grids.get(name)
        if grid is None:
            grid = self._grids[name] = Grid(self._tracks.many_states(name), self._tracks.begins_of(name))
        return grid

    def called_by(self, knowing):
        """The name of the procedure of a knowing."""
        return self._spots_told[self._rows[knowing][0]][0]

    def context_at(self, context):
        """The pair of the procedure of a context and of the mask of the indices of its begins."""
        return self._contexts[context]

    def parts_in(self, knowing):
        """The list of triples (procedure, place, pairs of a begin and a state there)."""
        row = self._rows[knowing]
        return [self._spots_told[row[at]] + (row[at + 1],) for at in range(0, len(row), 2)]

    def pairs_in(self, knowing):
        """The ascending list of the pairs of a knowing: the code of the begin, that of the now, and the pair as it is
        told."""
        row = self._rows[knowing]
        found = []
        for at in range(0, len(row), 2):
            _, place = self._spots_told[row[at]]
            states, begins = self._spot_lists[row[at]]
            for bit in bits_of(row[at + 1]):
                index, state = divmod(bit, len(states))
                begin = begins[index]
                told = (states[begin], (place,) + states[state])
                found.append((begin, place * len(states) + state, told))
        return found if len(row) == 2 else sorted(found)

    def codes_in(self, knowing):
        """The ascending list of the pairs of the code of a begin and of that of a now of a knowing."""
        return [(begin, code) for begin, code, told in self.pairs_in(knowing)]

    def order_coded(self, item):
        """What decides between pairs of a context and of a knowing where any of them will do."""
        masks = {}
        for begin, code in self.codes_in(item[1]):
            masks[begin] = masks.get(begin, 0) | 1 << code
        return (self.context_order(item[0]), [(begin, masks[begin]) for begin in masks])

    def context_order(self, context):
        """What sorts contexts in the order in which they are told."""
        name, indices = self._contexts[context]
        return (name, bits_of(indices))

    def decoded(self, knowing):
        """A knowing, as it is told."""
        return self.told_with(knowing, self.pairs_in(knowing))

    def told_with(self, knowing, pairs):
        """A knowing, as it is told, with all its pairs."""
        return (self.called_by(knowing), tuple([told for begin, code, told in pairs]))

    def told_of(self, knowing):
        """A knowing, as it is told, kept for the next time."""
        if knowing not in self._told:
            self._told[knowing] = self.decoded(knowing)
        return self._told[knowing]

    def context_told(self, context):
        """A context, as it is told."""
        name, indices = self._contexts[context]
        states, begins = self._context_lists[context]
        return (name, tuple([states[begins[index]] for index in bits_of(indices)]))

    def context_read(self, value):
        """The number of a context that is told, or None if the value is none by its form."""
        context = self._context_from(value)
        return None if context is None else self.context_with(context[0], context[1])

    def knowing_read(self, value):
        """The number of a knowing that is told, or None if the value is none by its form."""
        row = self._row_from(value)
        return None if row is None else self.number_of(row)

    def item_known(self, context, knowing):
        """The pair of the numbers of a context and of a knowing that are told; instead of a number, None if a value is
        none by its form, or has no number so far."""
        row = self._row_from(knowing)
        return (self._context_numbers.get(self._context_from(context)), self._row_numbers.get(row))

    def knowings_read(self, context, value):
        """The list of the knowings of a context that are told, or None if the value is no tuple of such ones, at least
        one."""
        if type(value) != tuple or not value or not all([self._is_pair_heard(told) for told in value]):
            return None
        name = self._contexts[context][0]
        if context not in self._context_begins:
            self._context_begins[context] = self._begins_at(name, self._contexts[context][1])
        begins = self._context_begins[context]
        found = [self._row_with(name, begins, pairs) if called == name else None for called, pairs in value]
        return None if None in found else [self.number_of(row) for row in found]

    def _context_from(self, value):
        """The pair of a procedure and of the mask of the indices of begins of a context that is told, or None."""
        if not self._is_pair_heard(value):
            return None
        name, begins = value
        codes, grid = self._tracks.codes_of(name), self.grid_of(name)
        found = [codes.begin_read(begin) for begin in begins]
        if not found or not all([grid.is_begin(begin) for begin in found]) or not ascends(found):
            return None
        indices = mask_of([grid.index_of(begin) for begin in found])
        # The context of main has all its begins.
        return None if name == self._main and indices != grid.all_indices() else (name, indices)

    def _row_from(self, value):
        """The row of a knowing that is told, or None."""
        if not self._is_pair_heard(value):
            return None
        name, pairs = value
        if name not in self._begins_told:
            self._begins_told[name] = self._begins_at(name, self.grid_of(name).all_indices())
        return self._row_with(name, self._begins_told[name], pairs)

    def _begins_at(self, name, indices):
        """A dict from some begins, as they are told, to the bits where their rows begin."""
        states, begins = self._tracks.codes_of(name).states_told(), self.grid_of(name).begins()
        return {states[begins[index]]: index * len(states) for index in bits_of(indices)}

    def _row_with(self, name, begins, pairs):
        """The row of the knowing with some pairs that are told, or None if they do not ascend, or are none."""
        codes, most = self._tracks.codes_of(name).state_codes(), len(self._tracks.places_in(name))
        many = len(codes)
        found = {}
        last = -1
        for pair in pairs:
            if type(pair) != tuple or len(pair) != 2 or not _are_begin_and_now(pair[0], pair[1]):
                return None
            begin, now = pair
            row, state = begins.get(begin), codes.get(now[1:])
            if row is None or state is None or not 0 <= now[0] < most:
                return None
            # They have to ascend.
            here = (row * most + now[0] * many) + state
            if here <= last:
                return None
            last = here
            found[now[0]] = found.get(now[0], 0) | 1 << row + state
        return _row_made({self.spot_of(name, place): found[place] for place in found}) if found else None

    def _new_number(self, row):
        """The number of a row that has none so far."""
        number = self._row_numbers[row] = len(self._rows)
        self._rows.append(row)
        return number

    def _is_pair_heard(self, value):
        """Whether a value is a pair of the name of a procedure that is not quiet and of a tuple."""
        if type(value) != tuple or len(value) != 2 or type(value[1]) != tuple:
            return False
        return type(value[0]) == str and value[0] in self._heard


def _row_made(found):
    """The row with these pairs, by a dict from spots."""
    if len(found) == 1:
        for spot in found:
            return (spot, found[spot])
    return tuple([part for spot in sorted(found) for part in (spot, found[spot])])


def _are_begin_and_now(begin, now):
    """Whether two values have the form of a begin and of a now."""
    if type(begin) != tuple or type(now) != tuple or len(begin) != 2 or len(now) != 3:
        return False
    standing, own = begin
    place, standing_now, own_now = now
    if type(standing) != tuple or type(own) != tuple or type(standing_now) != tuple or type(own_now) != tuple:
        return False
    # What equals a number may be True or False; and what has a list in it cannot be looked up.
    return type(place) == int and are_integers(standing + own + standing_now + own_now)
