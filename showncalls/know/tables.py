"""Tables of knowings, which hold for all logs of a program."""

from showncalls.base.checks import ascends, has_all_of, is_integer
from showncalls.base.shapes import check_fact, check_program, is_heard
from showncalls.errors import InvalidNumber, InvalidTable, TooMany
from showncalls.know.closed import is_closed_under
from showncalls.know.knowings import are_begins
from showncalls.know.least import least_of
from showncalls.know.minds import mind_of

MAX_KNOWINGS = 400
LONGEST_LOG = 2000


def is_table(program, value):
    """Whether a value is a table of a program, by its form."""
    check_program(program)
    return table_read(mind_of(program), value) is not None


def is_closed(program, value):
    """Whether a value is a closed table of a program."""
    check_program(program)
    mind = mind_of(program)
    table = table_read(mind, value)
    return table is not None and is_closed_under(mind, table)


class Table:
    """The least table of a program. It never changes."""

    def __init__(self, program, *, limit=MAX_KNOWINGS):
        check_program(program)
        if not is_integer(limit) or not 1 <= limit <= MAX_KNOWINGS:
            raise InvalidNumber(limit)
        self._program = program
        self._least = least_of(program, limit)

    @property
    def program(self):
        """The program."""
        return self._program

    @property
    def contexts(self):
        """The ascending tuple of its contexts."""
        return tuple(list(self._least.knowings))

    def as_dict(self):
        """The table, as a dict from contexts to tuples of knowings."""
        knowings = self._least.knowings
        return {context: knowings[context] for context in knowings}

    def shortest_log(self, context, knowing):
        """Any log with as few lines as possible that leads to a knowing in a context."""
        item = self._item_of(context, knowing)
        logs = self._least.shortest_logs()
        if logs.lines_to(item) > LONGEST_LOG:
            raise TooMany(LONGEST_LOG)
        return logs.log_to(item)

    def log_length(self, context, knowing):
        """The number of lines of such a log."""
        return self._least.shortest_logs().lines_to(self._item_of(context, knowing))

    def _item_of(self, context, knowing):
        """The item of the least table with a context and a knowing."""
        item = self._least.mind().item_known(context, knowing)
        if not self._least.is_item(item):
            raise InvalidTable("the table has no such context with this knowing")
        return item

    def bars(self, fact):
        """Whether the table shows that a fact is never known."""
        check_fact(self._program, fact)
        table = {}
        for context, knowing in self._least.items_found():
            table.setdefault(context, {})[knowing] = True
        return bars_fact(self._least.mind(), table, fact)

    def __getitem__(self, at):
        if at not in self:
            raise InvalidTable("the table has no such context")
        return self._least.knowings[at]

    # Without this, Python would iterate by __getitem__.
    def __iter__(self):
        raise TypeError("a table cannot be iterated over")

    def __contains__(self, x):
        # The form is asked first, since what is no context may be equal to one: True equals 1.
        return is_context(self._program, x) and x in self._least.knowings

    def __len__(self):
        return len(self._least.items_found())

    def __eq__(self, other):
        return isinstance(other, Table) and self._program == other._program

    def __str__(self):
        return f"table of {self._least.many_contexts()} contexts, {self._least.many_items()} knowings"


def table_read(mind, value, is_wanted=None):
    """A table that is told, as a dict from contexts to dicts with their knowings as keys, all by their numbers; or None
    if the value is no table by its form, or if it has a knowing that is not wanted, where this is asked."""
    if not isinstance(value, dict):
        return None
    table = {}
    for told in value:
        context = mind.context_read(told)
        knowings = None if context is None else mind.knowings_read(context, value[told])
        if knowings is None or not ascends(value[told]):
            return None
        if is_wanted is not None and not all([is_wanted(knowing) for knowing in knowings]):
            return None
        table[context] = {knowing: True for knowing in knowings}
    return table


def bars_fact(mind, table, fact):
    """Whether a table, by numbers, bars a fact."""
    shown = all_that_stand(mind, table) + all_that_end(mind, table)
    return not any([are_all_in(fact, standings) for standings in shown])


def all_that_stand(mind, table):
    """The list of what can stand, by each knowing of a table: ascending tuples of standings."""
    return [mind.standings_in(knowing) for context in table for knowing in table[context]]


def all_that_end(mind, table):
    """The list of what can end, by each knowing of main that has ends."""
    main = mind.main_context()
    leave = ("leave", mind.called_in(main))
    given = [mind.after(knowing).get(leave) for knowing in table.get(main, [])]
    return [mind.standings_in(ends) for ends in given if ends is not None]


def is_context(program, value):
    """Whether a value is a context of a program."""
    if not isinstance(value, tuple) or len(value) != 2 or not is_heard(program, value[0]):
        return False
    name, begins = value
    return are_begins(program, name, begins) and (name != program.main or begins == program.begins(name))


def are_all_in(fact, standings):
    """Whether a fact has all of some standings."""
    return has_all_of(fact._held, standings)
