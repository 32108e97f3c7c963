"""Procedures and programs."""

from showncalls.base.cells import in_order, is_cells, is_size, standings_of, with_own
from showncalls.base.checks import all_rows, is_number
from showncalls.base.fitting import fit_together
from showncalls.base.nows import Shape
from showncalls.base.places import places_of
from showncalls.base.statements import MOST_DEPTH, MOST_STATEMENTS, is_body, statements_of, with_new_names
from showncalls.base.steps import Steps
from showncalls.base.words import is_name
from showncalls.errors import InvalidOperation, InvalidProgram, UnknownName

MOST_OWN = 2


class Procedure:
    """A procedure by its form: it may use any cells and call any procedures. It never changes."""

    def __init__(self, called, body, *, own=(), quiet=False):
        if not is_name(called) or not is_body(body, MOST_DEPTH):
            raise InvalidProgram("this is no name and body of a procedure")
        statements = statements_of(body)
        if len(statements) > MOST_STATEMENTS:
            raise InvalidProgram("these are too many statements")
        if not _are_own(own) or not isinstance(quiet, bool):
            raise InvalidProgram("these are no own cells and no boolean")
        self._called = called
        self._body = body
        self._own = own
        self._quiet = quiet
        # All statements, in reading order.
        self._statements = tuple(statements)
        # Found when they are asked for.
        self._places_kept = None

    @property
    def called(self):
        """Its name."""
        return self._called

    @property
    def body(self):
        """The tuple of its statements."""
        return self._body

    @property
    def own(self):
        """The tuple of the pairs of the name and the size of its own cells."""
        return self._own

    @property
    def quiet(self):
        """Whether its calls write no lines."""
        return self._quiet

    @property
    def places(self):
        """For each place its statement, the place behind it and the places into its bodies."""
        if self._places_kept is None:
            self._places_kept = places_of(self._body, len(self._statements))
        return self._places_kept

    def statements(self):
        """The tuple of all statements, in reading order."""
        return self._statements

    def __len__(self):
        return len(self._statements)

    def __eq__(self, other):
        return (isinstance(other, Procedure) and self._called == other._called and self._body == other._body
                and self._own == other._own and self._quiet == other._quiet)

    def __str__(self):
        return f"procedure {self._called}, {len(self)} statements"


class Program:
    """Shared cells and procedures that fit together, the main one first. It never changes."""

    def __init__(self, shared, *procedures):
        if not is_cells(shared) or not all([isinstance(value, Procedure) for value in procedures]):
            raise InvalidProgram("these are no shared cells and procedures")
        if not fit_together(shared, procedures):
            raise InvalidProgram("the procedures do not fit together")
        self._shared = in_order(shared)
        self._procedures = procedures
        self._named = {procedure.called: procedure for procedure in procedures}
        # Made when they are asked for: most programs that are made on the way to others are asked nothing.
        self._standings_kept = None
        self._shapes = None
        self._steps = None
        # What other modules have worked out about the program, which never changes, by what they call it.
        self._kept = {}

    @classmethod
    def of(cls, shared, procedures):
        """The program with a tuple of procedures."""
        if not isinstance(procedures, tuple):
            raise InvalidProgram("this is no tuple of procedures")
        return cls(shared, *procedures)

    @property
    def shared(self):
        """A dict from the names of the shared cells to their sizes."""
        return in_order(self._shared)

    @property
    def procedures(self):
        """The tuple of the procedures, the main one first."""
        return self._procedures

    @property
    def names(self):
        """The tuple of the names of the procedures, in their order."""
        return tuple([procedure.called for procedure in self._procedures])

    @property
    def main(self):
        """The name of the main procedure."""
        return self._procedures[0].called

    @property
    def words(self):
        """The ascending tuple of all words that are asked or said."""
        statements = [part for procedure in self._procedures for part in procedure._statements]
        return tuple(sorted({part[1] for part in statements if part[0] in ("ask", "say")}))

    @property
    def all_standings(self):
        """A dict with all standings as keys, ascending."""
        if self._standings_kept is None:
            self._standings_kept = {standing: True for standing in standings_of(self._shared)}
        return self._standings_kept

    @property
    def shapes(self):
        """A dict from the names of the procedures to what their begins, states and nows look like."""
        if self._shapes is None:
            self._shapes = _shapes_of(self.all_standings, self._procedures)
        return self._shapes

    @property
    def steps(self):
        """The moves of the procedures within one frame."""
        if self._steps is None:
            self._steps = Steps(self._shared, self._procedures)
        return self._steps

    def cells_of(self, name):
        """A dict from the names of all cells that a procedure can use to their sizes."""
        return with_own(self._shared, self[name].own)

    def begins(self, name):
        """The ascending tuple of the pairs of a standing and own numbers with which a procedure can begin."""
        own_sizes = [1 for pair in self[name].own]
        if own_sizes and name != self.main:
            own_sizes[0] = self[name].own[0][1]
        owns = all_rows(own_sizes)
        return tuple([(standing, own) for standing in standings_of(self._shared) for own in owns])

    def statement(self, name, place):
        """The statement at a place of a procedure, or None at the end."""
        return self._place(name, place)[0]

    def behind(self, name, place):
        """The place behind the statement at a place of a procedure, or the end itself."""
        return self._place(name, place)[1]

    def into(self, name, place, index):
        """The place into an inner body of the statement at a place of a procedure."""
        intos = self._place(name, place)[2]
        if not is_number(index, len(intos)):
            raise InvalidOperation("there is no such inner body")
        return intos[index]

    def with_procedure(self, procedure):
        """The program with a procedure in the place of the one with the same name, or as the last one."""
        if not isinstance(procedure, Procedure):
            raise InvalidOperation("this is no procedure")
        if procedure.called in self:
            return self._with(procedure)
        return _changed(self._shared, self._procedures + (procedure,))

    def without(self, name):
        """The program without a procedure."""
        called = self[name].called
        return _changed(self._shared, tuple([part for part in self._procedures if part.called != called]))

    def with_quiet(self, name, quiet):
        """The program with a procedure quiet, or not."""
        old = self[name]
        if not isinstance(quiet, bool):
            raise InvalidOperation("this is no boolean")
        return self._with(Procedure(name, old.body, own=old.own, quiet=quiet))

    def with_shared(self, name, size):
        """The program with one more shared cell."""
        if not is_name(name) or name in self._shared:
            raise InvalidOperation("this is no name of a new cell")
        return _changed({**self._shared, name: size}, self._procedures)

    def without_shared(self, name):
        """The program with one shared cell less."""
        if not isinstance(name, str) or name not in self._shared:
            raise UnknownName(name)
        shared = {cell: self._shared[cell] for cell in self._shared if cell != name}
        return _changed(shared, self._procedures)

    def renamed(self, names):
        """The program with new names for some procedures, by a dict from their names."""
        if not isinstance(names, dict) or not all([old in self and is_name(names[old]) for old in names]):
            raise InvalidOperation("these are no new names for some of the procedures")
        return _changed(self._shared, tuple([_renamed(procedure, names) for procedure in self._procedures]))

    def _place(self, name, place):
        """The triple of a place: its statement, the place behind it, the places into its bodies."""
        places = self[name].places
        if not is_number(place, len(places)):
            raise InvalidOperation("this is no place of the procedure")
        return places[place]

    def _with(self, procedure):
        """The program with a procedure in the place of the one with the same name."""
        called = procedure.called
        return _changed(self._shared, tuple([procedure if old.called == called else old for old in self._procedures]))

    def __getitem__(self, at):
        if at not in self:
            raise UnknownName(at)
        return self._named[at]

    # Without this, Python would iterate by __getitem__.
    def __iter__(self):
        raise TypeError("a program cannot be iterated over")

    def __contains__(self, x):
        return isinstance(x, str) and x in self._named

    def __len__(self):
        return len(self._procedures)

    def __eq__(self, other):
        return (isinstance(other, Program) and self._shared == other._shared
                and self._procedures == other._procedures)

    def __str__(self):
        return f"program of {len(self._procedures)} procedures, {len(self._shared)} shared cells"


def _shapes_of(standings, procedures):
    """A dict from the names of the procedures of a program to their shapes."""
    main = procedures[0].called
    return {one.called: Shape(standings, one, one.called == main, one.places) for one in procedures}


def _are_own(value):
    """Whether a value is a tuple of at most two own cells with different names."""
    if not isinstance(value, tuple) or len(value) > MOST_OWN or not all([_is_own(pair) for pair in value]):
        return False
    return len({name for name, size in value}) == len(value)


def _is_own(value):
    """Whether a value is a pair of a name and a size."""
    return isinstance(value, tuple) and len(value) == 2 and is_name(value[0]) and is_size(value[1])


def _renamed(procedure, names):
    """A procedure with new names for it and for those that it calls."""
    called = names.get(procedure.called, procedure.called)
    return Procedure(called, with_new_names(procedure.body, names), own=procedure.own, quiet=procedure.quiet)


def _changed(shared, procedures):
    """The program with these shared cells and procedures, which may be none."""
    try:
        return Program.of(shared, procedures)
    except InvalidProgram:
        raise InvalidOperation("the result is no program") from None
