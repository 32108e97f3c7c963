"""How knowings follow from one another, on their numbers."""

from showncalls.base.facts import made_fact
from showncalls.know.codes import bits_of
from showncalls.know.lines import lines_of
from showncalls.know.numbers import Numbers

# A mind that keeps so many answers is left to those who use it; for new questions there is a new one.
MOST_KEPT = 20000


def mind_of(program):
    """The mind of a program, which is made once, and anew if it has become too great."""
    if "mind" not in program._kept or program._kept["mind"].many_kept() > MOST_KEPT:
        program._kept["mind"] = Mind(program)
    return program._kept["mind"]


class Mind(Numbers):
    """What lines make of the knowings of a program, which have numbers here, and so have contexts."""

    def __init__(self, program):
        super().__init__(program)
        self._shared = program.shared
        self._standings = list(program.all_standings)
        self._lines = lines_of(program)
        self._main_context = self.context_with(program.main, self.grid_of(program.main).all_indices())
        # What has been worked out: logs and tables come to the same knowings again and again.
        self._after = {}
        self._firsts = {}
        self._contexts_given = {}
        self._joined = {}
        self._standings_in = {}
        self._standings_of = {}
        self._facts_with = {}
        # By spot: the lines that can come next there, with what lies behind them.
        self._ways = {}
        # By what is kept: the calls there. By ends: for each begin the mask of the states that it ends with.
        self._calls = {}
        self._given = {}
        # By the spots of calls: what all of them have in common.
        self._call_spots = {}

    def many_kept(self):
        """How much is kept; what is not counted here is in proportion to it."""
        return self.many_numbers() + len(self._joined)

    def called_in(self, context):
        """The name of the procedure of a context."""
        return self.context_at(context)[0]

    def main_context(self):
        """The context of main."""
        return self._main_context

    def first(self, context):
        """The knowing in which each begin of a context is its own now."""
        if context not in self._firsts:
            name, indices = self.context_at(context)
            pairs = self.grid_of(name).first_pairs(indices)
            self._firsts[context] = self.number_of((self.spot_of(name, 0), pairs))
        return self._firsts[context]

    def after(self, knowing):
        """A dict from all lines that can come next, ascending, to numbers: of the knowing behind a line that is said or
        asked, of what is kept behind an enter, of the ends at a leave."""
        found = self._after.get(knowing)
        if found is None:
            found = self._after[knowing] = self._found_after(self._rows[knowing])
        return found

    def context_given(self, kept):
        """The context of the new call, if these pairs are kept."""
        found = self._contexts_given.get(kept)
        if found is None:
            name, place = self.spot_told(self.row_of(kept)[0])
            called = self._tracks.places_in(name)[place][0][1]
            index_of = self.grid_of(called).indices()
            indices = 0
            for behind, begin, rows, call, backs in self._calls_in(kept):
                indices = indices | 1 << index_of[begin]
            found = self._contexts_given[kept] = self.context_with(called, indices)
        return found

    def joined_back(self, kept, ends):
        """The knowing joined of what is kept and of the ends of the call that has been entered."""
        found = self._joined.get((kept, ends))
        if found is None:
            found = self._joined[kept, ends] = self._found_joined(kept, ends)
        return found

    def is_empty(self, knowing):
        """Whether no pair is left."""
        return not self.row_of(knowing)

    def standings_in(self, knowing):
        """The ascending tuple of the standings of all nows of a knowing, or of ends."""
        if knowing not in self._standings_in:
            states = 0
            many = 1
            for name, place, pairs in self.parts_in(knowing):
                states = states | self.grid_of(name).states_in(pairs)
                many = self._tracks.codes_of(name).many_owns()
            if (states, many) not in self._standings_of:
                found = sorted({state // many for state in bits_of(states)})
                self._standings_of[states, many] = tuple([self._standings[at] for at in found])
            self._standings_in[knowing] = self._standings_of[states, many]
        return self._standings_in[knowing]

    def fact_with(self, standings):
        """The fact with some standings, an ascending tuple."""
        if standings not in self._facts_with:
            self._facts_with[standings] = made_fact(self._shared, standings)
        return self._facts_with[standings]

    def lines_from(self, name, code):
        """The list of pairs of a line that can come next at a now of a seen call, and of a mask of codes."""
        return self._lines.at_code(name, code)

    def call_at(self, name, code):
        """The pair (procedure, code of the begin) of the call at a now."""
        return self._tracks.stop(name, code)[1]

    def behind_call(self, name, call, called, ends):
        """The mask of the codes of the nows behind a call that is left with these ends."""
        return self._tracks.given_back_all(name, call, called, ends)

    def _found_after(self, row):
        if len(row) > 2:
            return self._merged_after(row)
        pairs = row[1]
        found = {}
        for line, behind, terms, many in self._ways.get(row[0]) or self._ways_from(row[0]):
            reached = pairs
            if terms is not None:
                reached = 0
                for wanted, shift in terms:
                    reached = reached | (pairs & wanted) << shift
                reached = reached >> many
            if line in found:
                return self._merged_after(row)
            if reached:
                number = self._row_numbers.get((behind, reached))
                found[line] = self._new_number((behind, reached)) if number is None else number
        return found

    def _merged_after(self, row):
        """What comes next, if a line may lead to several places, or from several ones."""
        found = {}
        for at in range(0, len(row), 2):
            for line, behind, terms, many in self._ways_from(row[at]):
                reached = row[at + 1] << many
                if terms is not None:
                    reached = 0
                    for wanted, shift in terms:
                        reached = reached | (row[at + 1] & wanted) << shift
                if reached:
                    parts = found.setdefault(line, {})
                    parts[behind] = parts.get(behind, 0) | reached >> many
        return {line: self.number_with(found[line]) for line in sorted(found)}

    def _ways_from(self, spot):
        """The list of all lines that can come next, with the spot behind each, and terms for all begins. Differences
        are greater here by the number of states, the last item, so that none is below 0. The terms are None if all
        pairs stay as they are."""
        if spot not in self._ways:
            name, place = self.spot_told(spot)
            many, grid = self._tracks.many_states(name), self.grid_of(name)
            found = []
            for line, behind, terms in self._lines.from_place(name, place):
                told = [(grid.in_all_rows(states), difference + many) for states, difference in terms]
                if terms == [((1 << many) - 1, 0)]:
                    told = None
                found.append((line, self.spot_of(name, behind), told, many))
            self._ways[spot] = found
        return self._ways[spot]

    def _calls_in(self, kept):
        """The list of the calls of what is kept, one for each state there: the spot behind it, the code of the begin
        that it gives, the first pairs of all rows that have it, the code of its now, and a dict for the states behind
        it, by the masks of those that it ends with; or None instead if both are always the same."""
        found = self._calls.get(kept)
        if found is None:
            found = self._calls[kept] = []
            row = self._rows[kept]
            for at in range(0, len(row), 2):
                grid, behind, begins, first, all_backs = self._call_spots.get(row[at]) or self._call_spot(row[at])
                for state in bits_of(grid.states_in(row[at + 1])):
                    backs = None if all_backs is None else all_backs[state]
                    found.append((behind, begins[state], grid.rows_with(row[at + 1], state), first + state, backs))
        return found

    def _call_spot(self, spot):
        """Of the call at a spot: the grid, the spot behind it, the begins that it gives, the code of the first now
        there, and the list of the dicts for the states behind it, or None if they are those that it ends with."""
        name, place = self.spot_told(spot)
        many = self._tracks.many_states(name)
        behind = self.spot_of(name, self._tracks.places_in(name)[place][1])
        all_backs = None if self._tracks.gives_back_all(name, place) else [{} for state in range(many)]
        begins = self._tracks.begins_given(name, place)
        self._call_spots[spot] = (self.grid_of(name), behind, begins, place * many, all_backs)
        return self._call_spots[spot]

    def _ends_given(self, ends):
        """The procedure of some ends, and a dict from the codes of begins to the masks of the states they end with."""
        found = self._given.get(ends)
        if found is None:
            spot, pairs = self._rows[ends]
            name = self.spot_told(spot)[0]
            found = self._given[ends] = (name, dict(self.grid_of(name).rows_of(pairs)))
        return found

    def _found_joined(self, kept, ends):
        name = self.called_by(kept)
        called, given = self._ends_given(ends)
        found = {}
        for behind, begin, rows, call, backs in self._calls_in(kept):
            states = given.get(begin)
            if states is not None:
                if backs is not None:
                    if states not in backs:
                        backs[states] = self._tracks.states_back(name, call, called, states)
                    states = backs[states]
                # In each row that has this call there are all these states.
                found[behind] = found.get(behind, 0) | rows * states
        return self.number_with(found)
