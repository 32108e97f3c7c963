"""Silent programs: those in which nothing that is hidden is ever narrowed."""

from showncalls.base.shapes import check_program, is_standing
from showncalls.base.words import is_line
from showncalls.compare.search import shortest_stuck_run
from showncalls.compare.stuck import frames_behind, is_stuck_in, live_of
from showncalls.errors import TooMany
from showncalls.know.closed import is_closed_under
from showncalls.know.least import least_of
from showncalls.know.minds import mind_of
from showncalls.know.positions import lines_at, position_behind
from showncalls.know.tables import LONGEST_LOG, MAX_KNOWINGS, Table, table_read
from showncalls.run.runs import MAX_MOVES, Run


def is_stuck_run(program, start, choices):
    """Whether a run is stuck."""
    run = Run.of(program, start, choices)
    return is_stuck_in(program, frames_behind(program, run.start, run.choices))


def is_silent(program):
    """Whether a program is silent."""
    check_program(program)
    return not _split_items(program) and not live_of(program).has_stuck_run()


def silent_paper(program):
    """Any silent paper of a program: one with two lines, if there is one."""
    check_program(program)
    least = least_of(program, MAX_KNOWINGS)
    split = _split_items(program)
    if split:
        logs, mind = least.shortest_logs(), least.mind()
        many, _, item = min([(logs.lines_to(item), mind.order_coded(item), item) for item in split])
        if many > LONGEST_LOG:
            raise TooMany(LONGEST_LOG)
        line, other = _lines_apart(list(mind.after(item[1])))
        return ("split", logs.log_to(item), line, other)
    if not live_of(program).has_stuck_run():
        return ("silent", Table(program).as_dict())
    found = shortest_stuck_run(program)
    if found is None:
        raise TooMany(MAX_MOVES)
    return ("stuck", found)


def is_silent_paper(program, value):
    """Whether a value is a silent paper of a program."""
    check_program(program)
    if not isinstance(value, tuple) or not value:
        return False
    if len(value) == 4:
        return value[0] == "split" and _shows_split(program, value[1], value[2], value[3])
    if len(value) == 2 and value[0] == "stuck":
        return _shows_stuck(program, value[1])
    return len(value) == 2 and value[0] == "silent" and _shows_silent(program, value[1])


def _split_items(program):
    """The list of the items of the least table behind which two lines apart can come."""
    least = least_of(program, MAX_KNOWINGS)
    return [item for item in least.items_found() if _lines_apart(list(least.mind().after(item[1])))]


def _lines_apart(lines):
    """Two of some different lines that are not both asked with one word, or () if there are none."""
    for line in lines[1:]:
        if _are_apart(lines[0], line):
            return (lines[0], line)
    return ()


def _are_apart(line, other):
    """Whether two lines are different and not both asked with one word."""
    return line != other and not (line[0] == "ask" and line[:2] == other[:2])


def _shows_split(program, log, line, other):
    if not is_line(line) or not is_line(other) or not _are_apart(line, other):
        return False
    mind = mind_of(program)
    position = position_behind(mind, log)
    if position is None:
        return False
    following = lines_at(mind, position)
    return line in following and other in following


def _shows_stuck(program, value):
    if not isinstance(value, tuple) or len(value) != 2:
        return False
    start, choices = value
    if not is_standing(program, start) or not isinstance(choices, tuple):
        return False
    frames = frames_behind(program, start, choices)
    return frames is not None and is_stuck_in(program, frames)


def _shows_silent(program, table):
    mind = mind_of(program)
    read = table_read(mind, table)
    if read is None or any([_lines_apart(list(mind.after(knowing))) for context in read for knowing in read[context]]):
        return False
    return is_closed_under(mind, read) and not live_of(program).has_stuck_run()
