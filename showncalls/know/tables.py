"""Tables of knowings, which hold for all logs of a program."""

from showncalls.base.checks import ascends, is_integer
from showncalls.base.shapes import check_fact, check_program, is_heard
from showncalls.errors import InvalidNumber, InvalidTable, TooMany
from showncalls.know.knowings import are_begins, is_knowing
from showncalls.know.least import Least
from showncalls.know.minds import Mind

MAX_KNOWINGS = 400
LONGEST_LOG = 2000


def is_table(program, value):
    """Whether a value is a table of a program, by its form."""
    check_program(program)
    if not isinstance(value, dict):
        return False
    return all([_is_context(program, context) and _are_knowings(program, context, value[context])
                for context in value])


def is_closed(program, value):
    """Whether a value is a closed table of a program."""
    if not is_table(program, value):
        return False
    mind = Mind(program)
    coded = {}
    for context in value:
        coded[_coded_context(mind, context)] = {mind.coded(knowing): True for knowing in value[context]}
    if mind.main_context() not in coded:
        return False
    left = {context: _all_ends(mind, coded[context]) for context in coded}
    for context in coded:
        if mind.first(context) not in coded[context]:
            return False
        for knowing in coded[context]:
            if not _has_all_behind(mind, coded, left, context, knowing):
                return False
    return True


class Table:
    """The least table of a program. It never changes."""

    def __init__(self, program, *, limit=MAX_KNOWINGS):
        check_program(program)
        if not is_integer(limit) or not 1 <= limit <= MAX_KNOWINGS:
            raise InvalidNumber(limit)
        mind = Mind(program)
        self._program = program
        self._least = Least(mind, limit)
        self._items = {}
        for context, knowing in self._least.items_found():
            told = ((context[0], mind.decoded_begins(context[0], context[1])), mind.decoded(knowing))
            self._items[told] = (context, knowing)
        self._pairs = sorted(self._items)
        self._knowings = {}
        for context, knowing in self._pairs:
            self._knowings[context] = self._knowings.get(context, ()) + (knowing,)

    @property
    def program(self):
        """The program."""
        return self._program

    @property
    def contexts(self):
        """The ascending tuple of its contexts."""
        return tuple(list(self._knowings))

    def as_dict(self):
        """The table, as a dict from contexts to tuples of knowings."""
        return {context: self._knowings[context] for context in self._knowings}

    def shortest_log(self, context, knowing):
        """Any log with as few lines as possible that leads to a knowing in a context."""
        if self.log_length(context, knowing) > LONGEST_LOG:
            raise TooMany(LONGEST_LOG)
        return self._least.log_to(self._items[context, knowing])

    def log_length(self, context, knowing):
        """The number of lines of such a log."""
        if context not in self or not is_knowing(self._program, knowing) or (context, knowing) not in self._items:
            raise InvalidTable("the table has no such context with this knowing")
        return self._least.lines_to(self._items[context, knowing])

    def bars(self, fact):
        """Whether the table shows that a fact is never known."""
        check_fact(self._program, fact)
        return bars_fact(self._program, self._knowings, fact)

    def __getitem__(self, at):
        if at not in self:
            raise InvalidTable("the table has no such context")
        return self._knowings[at]

    # Without this, Python would iterate by __getitem__.
    def __iter__(self):
        raise TypeError("a table cannot be iterated over")

    def __contains__(self, x):
        # The form is asked first, since what is no context may be equal to one: True equals 1.
        return _is_context(self._program, x) and x in self._knowings

    def __len__(self):
        return len(self._pairs)

    def __eq__(self, other):
        return isinstance(other, Table) and self._program == other._program

    def __str__(self):
        return f"table of {len(self._knowings)} contexts, {len(self._pairs)} knowings"


def bars_fact(program, table, fact):
    """Whether a table, as a dict, bars a fact."""
    mind = Mind(program)
    for context in table:
        for knowing in table[context]:
            name, pairs = mind.coded(knowing)
            if _are_all_in(fact, mind.standings_in(name, pairs)):
                return False
            given = mind.after((name, pairs)).get(("leave", name), ()) if name == program.main else ()
            if given and _are_all_in(fact, mind.standings_in(name, given)):
                return False
    return True


def _is_context(program, value):
    """Whether a value is a context of a program."""
    if not isinstance(value, tuple) or len(value) != 2 or not is_heard(program, value[0]):
        return False
    name, begins = value
    return are_begins(program, name, begins) and (name != program.main or begins == program.begins(name))


def _are_knowings(program, context, value):
    """Whether a value is an ascending tuple of knowings that a context can have, at least one."""
    if not isinstance(value, tuple) or not value or not all([is_knowing(program, knowing) for knowing in value]):
        return False
    if not all([name == context[0] for name, pairs in value]):
        return False
    begins = {begin: True for begin in context[1]}
    return ascends(value) and all([begin in begins for name, pairs in value for begin, now in pairs])


def _are_all_in(fact, standings):
    return all([standing in fact for standing in standings])


def _coded_context(mind, context):
    return (context[0], mind.coded_begins(context[0], context[1]))


def _all_ends(mind, knowings):
    """A dict that has all ends which some of these coded knowings of one procedure have."""
    found = {}
    for knowing in knowings:
        given = mind.after(knowing).get(("leave", knowing[0]))
        if given is not None:
            found[given] = True
    return found


def _has_all_behind(mind, coded, left, context, knowing):
    """Whether a table, coded, has all that follows from a knowing of a context; `left` has all ends by contexts."""
    name = knowing[0]
    after = mind.after(knowing)
    for line in after:
        if line[0] in ("ask", "say") and (name, after[line]) not in coded[context]:
            return False
        if line[0] == "enter":
            kept = (name, after[line])
            inner = mind.context_given(kept)
            if inner not in coded:
                return False
            if not all([mind.joined_back(kept, given) in coded[context] for given in left[inner]]):
                return False
    return True
