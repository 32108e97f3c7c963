"""Situations, their moves, and runs."""

from showncalls.base.checks import is_number
from showncalls.base.shapes import check_program, is_standing
from showncalls.errors import InvalidNumber, InvalidOperation, InvalidRun, TooMany

MAX_MOVES = 1000


def is_situation(program, value):
    """Whether a value is a situation of a program, by its form."""
    check_program(program)
    if not isinstance(value, tuple) or len(value) != 2 or not is_standing(program, value[0]):
        return False
    # The procedure that the next frame has to have, None if there can be no next one.
    due = program.main
    frames = value[1]
    if not isinstance(frames, tuple):
        return False
    shapes = program.shapes
    for frame in frames:
        if not isinstance(frame, tuple) or len(frame) != 3:
            return False
        name, place, own = frame
        if due is None or name != due or not shapes[due].is_at(place, own):
            return False
        due = shapes[due].called_at(place)
    return True


def moves(program, situation):
    """The tuple of the moves of a situation: pairs of the line that each writes, or None, and what is behind it."""
    if not is_situation(program, situation):
        raise InvalidOperation("this is no situation of the program")
    return _moves(program, situation)


class Run:
    """A run of a program. It never changes."""

    def __init__(self, program, start, *choices):
        check_program(program)
        if not is_standing(program, start):
            raise InvalidRun("this is no standing of the program")
        own = tuple([0 for pair in program[program.main].own])
        first = (start, ((program.main, 0, own),))
        made = _made(program, first, choices)
        if len(made) < len(choices):
            raise InvalidRun("these choices cannot be made one after another")
        if len(choices) > MAX_MOVES:
            raise TooMany(MAX_MOVES)
        self._program = program
        self._start = start
        self._choices = choices
        # For each move the line that it writes, or None.
        self._written = tuple([line for line, behind in made])
        self._situations = (first,) + tuple([behind for line, behind in made])

    @classmethod
    def of(cls, program, start, choices):
        """The run with a tuple of choices."""
        check_program(program)
        if not isinstance(choices, tuple):
            raise InvalidRun("this is no tuple of choices")
        return cls(program, start, *choices)

    @property
    def program(self):
        """The program of which it is a run."""
        return self._program

    @property
    def start(self):
        """The standing with which it begins."""
        return self._start

    @property
    def choices(self):
        """The tuple of the indices of its moves."""
        return self._choices

    @property
    def log(self):
        """The enter line of main and all lines that its moves write."""
        return (("enter", self._program.main),) + tuple([line for line in self._written if line is not None])

    @property
    def situations(self):
        """The tuple of all its situations, the first one too."""
        return self._situations

    @property
    def situation(self):
        """Its last situation."""
        return self._situations[-1]

    @property
    def standing(self):
        """The standing of its last situation."""
        return self._situations[-1][0]

    @property
    def is_shown(self):
        """Whether it has no moves, or its last move writes a line."""
        return not self._written or self._written[-1] is not None

    def next_moves(self):
        """The tuple of the moves at its end."""
        return _moves(self._program, self.situation)

    def back(self, *, many=1):
        """The run without so many last moves."""
        if not is_number(many, len(self._choices) + 1):
            raise InvalidNumber(many)
        return self._beginning(len(self._choices) - many)

    def shown(self):
        """The longest shown beginning of the run."""
        many = len(self._written)
        while many > 0 and self._written[many - 1] is None:
            many -= 1
        return self._beginning(many)

    def _beginning(self, many):
        """The run with its first moves alone, so many."""
        made = Run(self._program, self._start)
        made._choices = self._choices[:many]
        made._written = self._written[:many]
        made._situations = self._situations[:many + 1]
        return made

    def __add__(self, other):
        found = _moves(self._program, self.situation)
        if not is_number(other, len(found)):
            raise InvalidOperation("this is no index of a move")
        if len(self._choices) >= MAX_MOVES:
            raise TooMany(MAX_MOVES)
        line, behind = found[other]
        # The moves that are there are not made again.
        made = Run(self._program, self._start)
        made._choices = self._choices + (other,)
        made._written = self._written + (line,)
        made._situations = self._situations + (behind,)
        return made

    def __len__(self):
        return len(self._choices)

    def __eq__(self, other):
        return (isinstance(other, Run) and self._program == other._program and self._start == other._start
                and self._choices == other._choices)

    def __str__(self):
        return f"run of {len(self._choices)} moves, {len(self.log)} lines"


def _made(program, situation, choices):
    """The list of the pairs of a line, or None, and a situation for the moves, as far as they can be made."""
    made = []
    for choice in choices:
        found = _moves(program, situation)
        if not is_number(choice, len(found)):
            break
        made.append(found[choice])
        situation = found[choice][1]
    return made


def _moves(program, situation):
    """The moves of what surely is a situation of the program."""
    standing, frames = situation
    if not frames:
        return ()
    name, place, own = frames[-1]
    outer = frames[:-1]
    steps = program.steps
    statement = program.statement(name, place)
    is_hidden = _has_quiet_frame(program, frames)
    if statement is None:
        return ((None if is_hidden else ("leave", name), _left(steps, outer, standing, own)),)
    if statement[0] == "call":
        called = statement[1]
        standing, inner = steps.begin_given(name, (place, standing, own))
        line = None if is_hidden or program[called].quiet else ("enter", called)
        return ((line, (standing, frames + ((called, 0, inner),))),)
    found = steps.inner_moves(name, (place, standing, own))
    return tuple([(None if is_hidden else line, (behind[1], outer + ((name, behind[0], behind[2]),)))
                  for line, behind in found])


def _has_quiet_frame(program, frames):
    """Whether one of some frames is that of a quiet procedure."""
    quiet = [procedure.called for procedure in program.procedures if procedure.quiet]
    return len(quiet) > 0 and any([frame[0] in quiet for frame in frames])


def _left(steps, outer, standing, own):
    """The situation behind the leave of a call with this standing and own numbers, ahead of which were these frames."""
    if not outer:
        return (standing, ())
    name, place, own_ahead = outer[-1]
    behind = steps.now_given_back(name, (place, standing, own_ahead), (standing, own))
    return (behind[1], outer[:-1] + ((name, behind[0], behind[2]),))
