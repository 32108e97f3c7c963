"""Situations, their moves, and runs."""

from showncalls.base.checks import is_number
from showncalls.base.shapes import Shape, check_program, is_call, is_standing
from showncalls.errors import InvalidNumber, InvalidOperation, InvalidRun, TooMany
from showncalls.run.steps import Steps

MAX_MOVES = 1000


def is_situation(program, value):
    """Whether a value is a situation of a program, by its form."""
    check_program(program)
    if not isinstance(value, tuple) or len(value) != 2 or not is_standing(program, value[0]):
        return False
    standing, frames = value
    if not isinstance(frames, tuple) or not all([_is_frame(program, standing, frame) for frame in frames]):
        return False
    if frames and frames[0][0] != program.main:
        return False
    return all([is_call(program, frames[at][0], frames[at][1], frames[at + 1][0]) for at in range(len(frames) - 1)])


def moves(program, situation):
    """The tuple of the moves of a situation: pairs of the line that each writes, or None, and what is behind it."""
    if not is_situation(program, situation):
        raise InvalidOperation("this is no situation of the program")
    return _moves(program, situation)


class Run:
    """A run of a program. It never changes."""

    def __init__(self, program, start, *choices):
        check_program(program)
        if not is_standing(program, start):
            raise InvalidRun("this is no standing of the program")
        own = tuple([0 for pair in program[program.main].own])
        first = (start, ((program.main, 0, own),))
        made = _made(program, first, choices)
        if len(made) < len(choices):
            raise InvalidRun("these choices cannot be made one after another")
        if len(choices) > MAX_MOVES:
            raise TooMany(MAX_MOVES)
        self._program = program
        self._start = start
        self._choices = choices
        # For each move the line that it writes, or None.
        self._written = tuple([line for line, behind in made])
        self._situations = (first,) + tuple([behind for line, behind in made])

    @classmethod
    def of(cls, program, start, choices):
        """The run with a tuple of choices."""
        check_program(program)
        if not isinstance(choices, tuple):
            raise InvalidRun("this is no tuple of choices")
        return cls(program, start, *choices)

    @property
    def program(self):
        """The program of which it is a run."""
        return self._program

    @property
    def start(self):
        """The standing with which it begins."""
        return self._start

    @property
    def choices(self):
        """The tuple of the indices of its moves."""
        return self._choices

    @property
    def log(self):
        """The enter line of main and all lines that its moves write."""
        return (("enter", self._program.main),) + tuple([line for line in self._written if line is not None])

    @property
    def situations(self):
        """The tuple of all its situations, the first one too."""
        return self._situations

    @property
    def situation(self):
        """Its last situation."""
        return self._situations[-1]

    @property
    def standing(self):
        """The standing of its last situation."""
        return self._situations[-1][0]

    @property
    def is_shown(self):
        """Whether it has no moves, or its last move writes a line."""
        return not self._written or self._written[-1] is not None

    def next_moves(self):
        """The tuple of the moves at its end."""
        return _moves(self._program, self.situation)

    def back(self, *, many=1):
        """The run without so many last moves."""
        if not is_number(many, len(self._choices) + 1):
            raise InvalidNumber(many)
        return self._beginning(len(self._choices) - many)

    def shown(self):
        """The longest shown beginning of the run."""
        many = len(self._written)
        while many > 0 and self._written[many - 1] is None:
            many -= 1
        return self._beginning(many)

    def _beginning(self, many):
        """The run with its first moves alone, so many."""
        made = Run(self._program, self._start)
        made._choices = self._choices[:many]
        made._written = self._written[:many]
        made._situations = self._situations[:many + 1]
        return made

    def __add__(self, other):
        found = _moves(self._program, self.situation)
        if not is_number(other, len(found)):
            raise InvalidOperation("this is no index of a move")
        if len(self._choices) >= MAX_MOVES:
            raise TooMany(MAX_MOVES)
        line, behind = found[other]
        # The moves that are there are not made again.
        made = Run(self._program, self._start)
        made._choices = self._choices + (other,)
        made._written = self._written + (line,)
        made._situations = self._situations + (behind,)
        return made

    def __len__(self):
        return len(self._choices)

    def __eq__(self, other):
        return (isinstance(other, Run) and self._program == other._program and self._start == other._start
                and self._choices == other._choices)

    def __str__(self):
        return f"run of {len(self._choices)} moves, {len(self.log)} lines"


def _is_frame(program, standing, value):
    """Whether a value is a frame of the program, whatever frames there are beside it."""
    if not isinstance(value, tuple) or len(value) != 3 or value[0] not in program:
        return False
    return Shape(program, value[0]).is_now((value[1], standing, value[2]))


def _made(program, situation, choices):
    """The list of the pairs of a line, or None, and a situation for the moves, as far as they can be made."""
    made = []
    for choice in choices:
        found = _moves(program, situation)
        if not is_number(choice, len(found)):
            break
        made.append(found[choice])
        situation = found[choice][1]
    return made


def _moves(program, situation):
    """The moves of what surely is a situation of the program."""
    found = _moves_with_lines(program, situation)
    frames = situation[1]
    return tuple([(_line_written(program, line, frames, behind[1]), behind) for line, behind in found])


def _moves_with_lines(program, situation):
    """The list of pairs of a line, or None, and a situation for all moves, whether or not a quiet one is there."""
    standing, frames = situation
    if not frames:
        return []
    name, place, own = frames[-1]
    outer, now = frames[:-1], (place, standing, own)
    steps = Steps(program)
    statement = program.statement(name, place)
    if statement is None:
        return [(("leave", name), _left(steps, outer, standing, own))]
    if statement[0] == "call":
        begin = steps.begin_given(name, now)
        return [(("enter", statement[1]), (begin[0], frames + ((statement[1], 0, begin[1]),)))]
    return [(line, (behind[1], outer + ((name, behind[0], behind[2]),)))
            for line, behind in steps.inner_moves(name, now)]


def _left(steps, outer, standing, own):
    """The situation behind the leave of a call with this standing and own numbers, ahead of which were these frames."""
    if not outer:
        return (standing, ())
    name, place, own_ahead = outer[-1]
    behind = steps.now_given_back(name, (place, standing, own_ahead), (standing, own))
    return (behind[1], outer[:-1] + ((name, behind[0], behind[2]),))


def _line_written(program, line, frames, frames_behind):
    """The line of a move, or None if the move is silent."""
    # One of both has all frames of the other one, but for the numbers of the last one.
    longer = frames if len(frames) > len(frames_behind) else frames_behind
    quiet = any([program[frame[0]].quiet for frame in longer])
    return None if quiet else line
