"""A shell: programs with names, and a watcher of each, by commands in words."""

from showncalls.base.checks import is_integer, is_number
from showncalls.base.facts import Fact
from showncalls.compare.alike import are_alike
from showncalls.compare.more import gives_no_more
from showncalls.compare.parts import without_parts
from showncalls.compare.silent import is_silent
from showncalls.errors import InvalidCommand, InvalidNumber, InvalidOperation, TooMany, UnknownName
from showncalls.give.ends import is_settled
from showncalls.give.left import Left
from showncalls.know.watchers import Watcher
from showncalls.text.commands import read_command
from showncalls.text.texts import read_program, write_log, write_program

MAX_PROGRAMS = 8

MAKING = ("copy", "less", "new")
ABOUT_FACTS = ("ask", "know", "settled")
# What changes the shell stands in its script.
CHANGING = ("back", "copy", "drop", "less", "new", "see")


class Shell:
    """Programs by their names, each with a watcher of its own."""

    def __init__(self):
        # By name; a watcher has its program.
        self._watchers = {}
        self._commands = []

    @classmethod
    def replayed(cls, script):
        """The shell behind the commands of a tuple."""
        if not isinstance(script, tuple):
            raise InvalidCommand("this is no tuple of commands")
        shell = cls()
        for command in script:
            shell.run(command)
        return shell

    @property
    def names(self):
        """The ascending tuple of the names of the programs."""
        return tuple(sorted(self._watchers))

    @property
    def programs(self):
        """A dict from the names to the programs."""
        return {name: self._watchers[name].program for name in sorted(self._watchers)}

    @property
    def script(self):
        """The tuple of all commands that have changed the shell."""
        return tuple(self._commands)

    def run(self, command):
        """Do what a command says; its reply."""
        told = read_command(command)
        if told is None:
            raise InvalidCommand("this is no command")
        if told[0] in MAKING:
            reply = self._make(told)
        elif told[0] in ABOUT_FACTS:
            reply = self._tell_of_fact(told)
        else:
            reply = self._use(told)
        if told[0] in CHANGING:
            self._commands.append(command)
        return reply

    def _make(self, told):
        """Make one more program; the reply."""
        kind, name = told[:2]
        made = name if kind == "new" else told[2]
        program = None if kind == "new" else self._watcher_of(name).program
        if kind == "less":
            _check_named(program, told[3])
        if made in self:
            raise InvalidOperation("there is a program with this name")
        if kind == "new":
            program = read_program(told[2])
        elif kind == "less":
            program = without_parts(program, told[3:])
        if len(self) >= MAX_PROGRAMS:
            raise TooMany(MAX_PROGRAMS)
        self._watchers[made] = Watcher(program)
        return None if kind == "copy" else str(program)

    def _tell_of_fact(self, told):
        """The reply to a command with a fact text."""
        kind, name, conditions = told
        watcher = self._watcher_of(name)
        fact = _fact_told(watcher.program.shared, conditions)
        if kind == "ask":
            return watcher.answer(fact)
        if kind == "settled":
            return is_settled(watcher.program, fact)
        log = Left(watcher.program).log_for(fact)
        return None if log is None else write_log(log)

    def _use(self, told):
        """The reply to any other command, which is done."""
        kind, name = told[:2]
        watcher = self._watcher_of(name)
        if kind == "drop":
            del self._watchers[name]
            return None
        if kind == "see":
            watcher.see(told[2])
            return len(watcher)
        if kind == "back":
            return watcher.back(many=told[2])
        if kind == "text":
            return write_program(watcher.program)
        if kind == "left":
            return tuple([fact.standings for fact in Left(watcher.program).sets])
        if kind == "silent":
            return is_silent(watcher.program)
        other = self._watcher_of(told[2]).program
        return are_alike(watcher.program, other) if kind == "alike" else gives_no_more(watcher.program, other)

    def _watcher_of(self, name):
        if name not in self:
            raise UnknownName(name)
        return self._watchers[name]

    def __call__(self, command):
        return self.run(command)

    def __contains__(self, x):
        return isinstance(x, str) and x in self._watchers

    def __len__(self):
        return len(self._watchers)

    def __eq__(self, other):
        return isinstance(other, Shell) and self._watchers == other._watchers

    def __str__(self):
        return f"shell of {len(self)} programs"


def _check_named(program, part):
    """Raise an error if a program has no such word, or no such procedure."""
    kind, name = part
    if kind == "word" and name not in program.words or kind == "call" and name not in program:
        raise UnknownName(name)


def _fact_told(cells, conditions):
    """The fact that all these conditions hold."""
    named = [word for condition in conditions for word in condition if not is_integer(word)]
    for name in named:
        if name not in cells:
            raise UnknownName(name)
    for name, worth in conditions:
        if is_integer(worth) and not is_number(worth, cells[name]):
            raise InvalidNumber(worth)
    fact = Fact.every(cells)
    for name, worth in conditions:
        fact = fact & (Fact.where(cells, {name: worth}) if is_integer(worth) else Fact.alike(cells, name, worth))
    return fact
