"""Projects: programs that change, with promises that stay kept."""

from showncalls.base.checks import is_integer
from showncalls.base.shapes import check_program
from showncalls.base.words import is_name
from showncalls.errors import InvalidNumber, InvalidOperation, NothingToUndo, Refused, UnknownName
from showncalls.house.promises import is_kept, is_promise


class Project:
    """A program that changes, with promises about it that stay kept."""

    def __init__(self, program):
        check_program(program)
        # The pairs of a program and a dict of promises: ahead of all deeds, and behind each of them, also behind those
        # that have been taken back. The last one that counts has this index; so many deeds have not been taken back.
        self._states = [(program, {})]
        self._deeds_named = []
        self._at = 0

    @property
    def program(self):
        """The program as it is now."""
        return self._states[self._at][0]

    @property
    def promises(self):
        """A dict from names to promises."""
        promises = self._states[self._at][1]
        return {name: promises[name] for name in sorted(promises)}

    @property
    def deeds(self):
        """The tuple of the names of all calls that have changed it and have not been taken back."""
        return tuple(self._deeds_named[:self._at])

    def promise(self, name, *parts):
        """Make a promise, which has to be kept, under a new name."""
        if not is_name(name) or name in self or not is_promise(self.program, parts):
            raise InvalidOperation("this is no new name and no promise about the program")
        if not is_kept(self.program, parts):
            raise Refused(name)
        self._do("promise", self.program, {**self.promises, name: parts})

    def forget(self, name):
        """Go on without a promise."""
        if name not in self:
            raise UnknownName(name)
        promises = self.promises
        del promises[name]
        self._do("forget", self.program, promises)

    def put(self, procedure):
        """Put a procedure in the place of the one with the same name, or as the last one."""
        self._change("put", self.program.with_procedure(procedure))

    def drop(self, name):
        """Take a procedure out."""
        self._change("drop", self.program.without(name))

    def hush(self, name, quiet):
        """Make a procedure quiet, or not."""
        self._change("hush", self.program.with_quiet(name, quiet))

    def undo(self, *, many=1):
        """Take back so many deeds; how many can be taken back then."""
        _check_many(many, self._at)
        self._at = self._at - many
        return self._at

    def redo(self, *, many=1):
        """Do again so many deeds that have been taken back; how many can be taken back then."""
        _check_many(many, len(self._deeds_named) - self._at)
        self._at = self._at + many
        return self._at

    def trial(self):
        """For a `with`: it gives the project itself, which behind the block is as before."""
        return ProjectTrial(self)

    def during(self, call):
        """What a call of the project returns; afterwards the project is as before."""
        with self.trial() as same:
            return call(same)

    def twin(self):
        """An independent copy."""
        made = Project(self.program)
        made._states = list(self._states)
        made._deeds_named = list(self._deeds_named)
        made._at = self._at
        return made

    def _change(self, deed, program):
        """Go on with another program, by which all promises have to be kept."""
        promises = self.promises
        for name in promises:
            if not is_kept(program, promises[name]):
                raise Refused(name)
        self._do(deed, program, promises)

    def _do(self, deed, program, promises):
        # What has been taken back cannot be done again any more.
        del self._states[self._at + 1:]
        del self._deeds_named[self._at:]
        self._states.append((program, promises))
        self._deeds_named.append(deed)
        self._at = self._at + 1

    def __getitem__(self, at):
        if at not in self:
            raise UnknownName(at)
        return self._states[self._at][1][at]

    # Without this, Python would iterate by __getitem__.
    def __iter__(self):
        raise TypeError("a project cannot be iterated over")

    def __contains__(self, x):
        return isinstance(x, str) and x in self._states[self._at][1]

    def __len__(self):
        return len(self._states[self._at][1])

    def __eq__(self, other):
        return isinstance(other, Project) and self._states[self._at] == other._states[other._at]

    def __str__(self):
        return f"project of {len(self.program)} procedures, {len(self)} promises"


class ProjectTrial:
    """A block behind which a project is as before."""

    def __init__(self, project):
        self._project = project
        self._states = []
        self._deeds_named = []
        self._at = 0

    def __enter__(self):
        self._states = list(self._project._states)
        self._deeds_named = list(self._project._deeds_named)
        self._at = self._project._at
        return self._project

    def __exit__(self, kind, value, trace):
        project = self._project
        project._states = self._states
        project._deeds_named = self._deeds_named
        project._at = self._at


def _check_many(many, most):
    """Raise an error if so many calls cannot be taken back, or done again."""
    if not is_integer(many) or many < 0:
        raise InvalidNumber(many)
    if many > most:
        raise NothingToUndo(many)
