"""Tables of knowings, which hold for all logs of a program."""

from showncalls.base.checks import ascends, has_all_of, is_integer
from showncalls.base.shapes import check_fact, check_program, is_heard
from showncalls.errors import InvalidNumber, InvalidTable, TooMany
from showncalls.know.closed import is_closed_under
from showncalls.know.knowings import are_begins, is_knowing
from showncalls.know.least import least_of
from showncalls.know.minds import mind_of

MAX_KNOWINGS = 400
LONGEST_LOG = 2000


def is_table(program, value):
    """Whether a value is a table of a program, by its form."""
    check_program(program)
    if not isinstance(value, dict):
        return False
    return all([is_context(program, context) and _are_knowings(program, context, value[context])
                for context in value])


def is_closed(program, value):
    """Whether a value is a closed table of a program."""
    if not is_table(program, value):
        return False
    mind = mind_of(program)
    coded = {}
    for context in value:
        coded[mind.coded_context(context)] = {mind.coded(knowing): True for knowing in value[context]}
    return is_closed_under(mind, coded)


class Table:
    """The least table of a program. It never changes."""

    def __init__(self, program, *, limit=MAX_KNOWINGS):
        check_program(program)
        if not is_integer(limit) or not 1 <= limit <= MAX_KNOWINGS:
            raise InvalidNumber(limit)
        self._program = program
        self._least = least_of(program, limit)
        # What is told of the items is worked out once for each program.
        if "items told" not in program._kept:
            program._kept["items told"] = _items_told(mind_of(program), self._least.items_found())
            program._kept["knowings told"] = _knowings_told(program._kept["items told"])
        self._items = program._kept["items told"]
        self._knowings = program._kept["knowings told"]

    @property
    def program(self):
        """The program."""
        return self._program

    @property
    def contexts(self):
        """The ascending tuple of its contexts."""
        return tuple(list(self._knowings))

    def as_dict(self):
        """The table, as a dict from contexts to tuples of knowings."""
        return {context: self._knowings[context] for context in self._knowings}

    def shortest_log(self, context, knowing):
        """Any log with as few lines as possible that leads to a knowing in a context."""
        if self.log_length(context, knowing) > LONGEST_LOG:
            raise TooMany(LONGEST_LOG)
        return self._least.log_to(self._items[context, knowing])

    def log_length(self, context, knowing):
        """The number of lines of such a log."""
        if context not in self or not is_knowing(self._program, knowing) or (context, knowing) not in self._items:
            raise InvalidTable("the table has no such context with this knowing")
        return self._least.lines_to(self._items[context, knowing])

    def bars(self, fact):
        """Whether the table shows that a fact is never known."""
        check_fact(self._program, fact)
        return bars_fact(self._program, self._knowings, fact)

    def __getitem__(self, at):
        if at not in self:
            raise InvalidTable("the table has no such context")
        return self._knowings[at]

    # Without this, Python would iterate by __getitem__.
    def __iter__(self):
        raise TypeError("a table cannot be iterated over")

    def __contains__(self, x):
        # The form is asked first, since what is no context may be equal to one: True equals 1.
        return is_context(self._program, x) and x in self._knowings

    def __len__(self):
        return len(self._items)

    def __eq__(self, other):
        return isinstance(other, Table) and self._program == other._program

    def __str__(self):
        return f"table of {len(self._knowings)} contexts, {len(self._items)} knowings"


def _items_told(mind, items):
    """A dict from the pairs of a context and a knowing, as they are told, to the items of the least table."""
    return {((context[0], mind.decoded_begins(context[0], context[1])), mind.decoded(knowing)): (context, knowing)
            for context, knowing in items}


def _knowings_told(items):
    """A dict from contexts to the ascending tuples of their knowings."""
    found = {}
    for context, knowing in sorted(items):
        found[context] = found.get(context, ()) + (knowing,)
    return found


def bars_fact(program, table, fact):
    """Whether a table, as a dict, bars a fact."""
    shown = all_that_stand(program, table) + all_that_end(program, table)
    return not any([are_all_in(fact, standings) for standings in shown])


def all_that_stand(program, table):
    """The list of what can stand, by each knowing of a table that is a dict: ascending tuples of standings."""
    mind = mind_of(program)
    coded = [mind.coded(knowing) for context in table for knowing in table[context]]
    return [mind.standings_in(name, pairs) for name, pairs in coded]


def all_that_end(program, table):
    """The list of what can end, by each knowing of main that has ends."""
    mind = mind_of(program)
    name = program.main
    coded = [mind.coded(knowing) for context in table for knowing in table[context] if context[0] == name]
    given = [mind.after(knowing)["leave", name] for knowing in coded if ("leave", name) in mind.after(knowing)]
    return [mind.standings_in(name, pairs) for pairs in given]


def is_context(program, value):
    """Whether a value is a context of a program."""
    if not isinstance(value, tuple) or len(value) != 2 or not is_heard(program, value[0]):
        return False
    name, begins = value
    return are_begins(program, name, begins) and (name != program.main or begins == program.begins(name))


def _are_knowings(program, context, value):
    """Whether a value is an ascending tuple of knowings that a context can have, at least one."""
    if not isinstance(value, tuple) or not value:
        return False
    name, begins = context
    among = {begin: True for begin in begins}
    return all([is_knowing_of(program, name, among, knowing) for knowing in value]) and ascends(value)


def is_knowing_of(program, name, begins, value):
    """Whether a value is a knowing of a procedure with some of these begins, which are the keys of a dict."""
    if not is_knowing(program, value) or value[0] != name:
        return False
    return all([begin in begins for begin, now in value[1]])


def are_all_in(fact, standings):
    """Whether a fact has all of some standings."""
    return has_all_of(fact._held, standings)
