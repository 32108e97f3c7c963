"""Facts: sets of standings of some cells."""

from showncalls.base.cells import in_order, is_cells, is_row_among, is_standings, standings_of
from showncalls.base.checks import has_all_of, is_number
from showncalls.errors import InvalidFact, InvalidOperation, UnknownName


class Fact:
    """A set of standings of some cells. It never changes."""

    def __init__(self, cells, standings=()):
        _check_cells(cells)
        if not is_standings(cells, standings):
            raise InvalidFact("these are no ascending standings of the cells")
        self._cells = in_order(cells)
        self._standings = standings
        # The same, for looking them up.
        self._held = {standing: True for standing in standings}

    @classmethod
    def every(cls, cells):
        """The fact with all standings."""
        _check_cells(cells)
        return made_fact(in_order(cells), standings_of(cells))

    @classmethod
    def where(cls, cells, numbers):
        """The fact with all standings in which some cells hold these numbers."""
        _check_cells(cells)
        if not _are_numbers(cells, numbers):
            raise InvalidFact("these are no numbers that some of the cells can hold")
        held = [(at, numbers[name]) for at, name in enumerate(sorted(cells)) if name in numbers]
        fitting = [row for row in standings_of(cells) if all([row[at] == number for at, number in held])]
        return made_fact(in_order(cells), tuple(fitting))

    @classmethod
    def alike(cls, cells, one, other):
        """The fact with all standings in which two cells hold equal numbers."""
        _check_cells(cells)
        first, second = _index_of(cells, one), _index_of(cells, other)
        return made_fact(in_order(cells), tuple([row for row in standings_of(cells) if row[first] == row[second]]))

    @property
    def cells(self):
        """A dict from the names of the cells to their sizes."""
        return in_order(self._cells)

    @property
    def standings(self):
        """The ascending tuple of the standings."""
        return self._standings

    def numbers(self, name):
        """The ascending tuple of the numbers that a cell holds in some of the standings."""
        at = _index_of(self._cells, name)
        return tuple(sorted({row[at] for row in self._standings}))

    def is_within(self, other):
        """Whether another fact has all standings of this one."""
        return has_all_of(_standings_over(self._cells, other), self._standings)

    def without(self, name):
        """The fact that is left over the other cells if one is left out."""
        left_out = _index_of(self._cells, name)
        cells = {cell: self._cells[cell] for cell in self._cells if cell != name}
        return made_fact(cells, tuple(sorted({row[:left_out] + row[left_out + 1:] for row in self._standings})))

    def over(self, cells):
        """The fact over more cells that tells the same of those that it has."""
        _check_cells(cells)
        if not all([cells.get(name) == self._cells[name] for name in self._cells]):
            raise InvalidOperation("a cell of the fact is not there with the same size")
        places = [at for at, name in enumerate(sorted(cells)) if name in self._cells]
        cut = {row: tuple([row[at] for at in places]) for row in standings_of(cells)}
        return made_fact(in_order(cells), tuple([row for row in cut if cut[row] in self._held]))

    def __and__(self, other):
        theirs = _standings_over(self._cells, other)
        return made_fact(self._cells, tuple([row for row in self._standings if row in theirs]))

    def __or__(self, other):
        theirs = _standings_over(self._cells, other)
        return made_fact(self._cells, tuple(sorted({**self._held, **theirs})))

    def __sub__(self, other):
        theirs = _standings_over(self._cells, other)
        return made_fact(self._cells, tuple([row for row in self._standings if row not in theirs]))

    def __invert__(self):
        return made_fact(self._cells, tuple([row for row in standings_of(self._cells) if row not in self._held]))

    def __contains__(self, x):
        return is_row_among(x, self._held)

    def __len__(self):
        return len(self._standings)

    def __bool__(self):
        return bool(self._standings)

    def __eq__(self, other):
        return isinstance(other, Fact) and self._cells == other._cells and self._standings == other._standings

    def __str__(self):
        return f"fact of {len(self._standings)} standings"


def made_fact(cells, standings):
    """The fact with cells that ascend and with what surely are ascending standings of them."""
    made = Fact({})
    made._cells = cells
    made._standings = standings
    made._held = {standing: True for standing in standings}
    return made


def _check_cells(cells):
    """Raise an error if these cannot be the cells of a fact."""
    if not is_cells(cells):
        raise InvalidFact("these cannot be the shared cells of a program")


def _are_numbers(cells, value):
    """Whether a value is a dict from some of the cells to numbers that they can hold."""
    if not isinstance(value, dict):
        return False
    return all([name in cells and is_number(value[name], cells[name]) for name in value])


def _index_of(cells, name):
    """The index of the number of a cell in a standing."""
    if not isinstance(name, str) or name not in cells:
        raise UnknownName(name)
    return sorted(cells).index(name)


def _standings_over(cells, other):
    """The standings of another fact, which is due to have the same cells, as the keys of a dict."""
    if not isinstance(other, Fact) or other._cells != cells:
        raise InvalidOperation("the other value is no fact over equal cells")
    return other._held
