"""What the tests find out for themselves: by going from whole situations, with all open calls, to whole situations."""


def moves(program, situation):
    """[0.12] and [0.13], statement by statement: the list of pairs of a written line, or None, and a situation."""
    standing, frames = situation
    if not frames:
        return []
    found = bare_moves(program, standing, frames)
    told = []
    for line, behind in found:
        quiet = any(program[frame[0]].quiet for frame in frames + behind[1])
        told.append((None if quiet else line, behind))
    return told


def bare_moves(program, standing, frames):
    name, place, own = frames[-1]
    shared = sorted(program.shared)
    owned = [cell for cell, size in program[name].own]
    cells = {**dict(zip(shared, standing)), **dict(zip(owned, own))}
    sizes = program.cells_of(name)
    statement = program.statement(name, place)

    def to(place, **changed):
        held = {**cells, **changed}
        frame = (name, place, tuple(held[cell] for cell in owned))
        return (tuple(held[cell] for cell in shared), frames[:-1] + (frame,))

    if statement is None:
        return [(("leave", name), left(program, standing, frames))]
    behind = program.behind(name, place)
    match statement:
        case ("set", cell, keys, table):
            row = 0
            for key in keys:
                row = row * sizes[key] + cells[key]
            return [(None, to(behind, **{cell: table[row]}))]
        case ("hide", cell):
            return [(None, to(behind, **{cell: number})) for number in range(sizes[cell])]
        case ("ask", word, cell):
            return [(("ask", word, number), to(behind, **{cell: number})) for number in range(sizes[cell])]
        case ("say", word, None):
            return [(("say", word), to(behind))]
        case ("say", word, cell):
            return [(("say", word, cells[cell]), to(behind))]
        case ("call", called, cell, _):
            inner = [0] * len(program[called].own)
            if cell is not None:
                inner[0] = cells[cell]
            return [(("enter", called), (standing, frames + ((called, 0, tuple(inner)),)))]
        case ("if", cell, number, _, _):
            return [(None, to(program.into(name, place, 0 if cells[cell] == number else 1)))]
        case ("either", _, _):
            return [(None, to(program.into(name, place, 0))), (None, to(program.into(name, place, 1)))]
        case ("often", _):
            return [(None, to(program.into(name, place, 0))), (None, to(behind))]


def left(program, standing, frames):
    """The situation behind the leave of the last frame."""
    if len(frames) == 1:
        return (standing, ())
    name, place, own = frames[-2]
    cell = program.statement(name, place)[3]
    shared = sorted(program.shared)
    owned = [part for part, size in program[name].own]
    held = {**dict(zip(shared, standing)), **dict(zip(owned, own))}
    if cell is not None:
        held[cell] = frames[-1][2][0]
    frame = (name, program.behind(name, place), tuple(held[part] for part in owned))
    return (tuple(held[part] for part in shared), frames[:-2] + (frame,))


def beginnings(program):
    """All pairs of a situation and of the tuple of the begins of all open seen calls, behind the first line."""
    return {((standing, ((program.main, 0, own),)), ((standing, own),)) for standing, own in program.begins(program.main)}


def seen_frames(program, frames):
    """How many frames are those of seen calls."""
    for at, frame in enumerate(frames):
        if program[frame[0]].quiet:
            return at
    return len(frames)


def silently(program, pairs, deeper):
    """All such pairs to which silent moves lead, while at most so many calls more than the seen ones are open."""
    found = set(pairs)
    work = list(pairs)
    while work:
        situation, begins = work.pop()
        for line, behind in moves(program, situation):
            if line is None and len(behind[1]) <= len(begins) + deeper and (behind, begins) not in found:
                found.add((behind, begins))
                work.append((behind, begins))
    return found


def behind_lines(program, pairs, deeper):
    """A dict from all lines that can come next to the set of the pairs behind them."""
    found = {}
    for situation, begins in silently(program, pairs, deeper):
        for line, behind in moves(program, situation):
            if line is not None:
                after = begins
                if line[0] == "enter":
                    name, place, own = behind[1][-1]
                    after = begins + ((behind[0], own),)
                if line[0] == "leave":
                    after = begins[:-1]
                found.setdefault(line, set()).add((behind, after))
    return found


def all_logs(program, many, deeper):
    """A dict from all logs with at most so many lines to the set of the pairs at the ends of their shown runs."""
    logs = {(("enter", program.main),): beginnings(program)}
    newest = dict(logs)
    for _ in range(many - 1):
        newest = {log + (line,): pairs for log in newest
                  for line, pairs in behind_lines(program, newest[log], deeper).items()}
        logs.update(newest)
    return logs


def least_moves(program, log, most, deeper):
    """A dict from the standings at the ends of shown runs with a log to their least numbers of moves, up to `most`."""
    # With each situation, how many lines have been written.
    newest = {(situation, 1) for situation, begins in beginnings(program)}
    found = {situation[0]: 0 for situation, many in newest} if len(log) == 1 else {}
    seen = set(newest)
    for turn in range(1, most + 1):
        behind_all = set()
        for situation, many in newest:
            for line, behind in moves(program, situation):
                if line is None and len(behind[1]) <= len(log) + deeper:
                    behind_all.add((behind, many))
                if line is not None and log[many:many + 1] == (line,):
                    behind_all.add((behind, many + 1))
                    if many + 1 == len(log):
                        found.setdefault(behind[0], turn)
        newest = behind_all - seen
        seen |= newest
    return found


def standings(pairs):
    return tuple(sorted({situation[0] for situation, begins in pairs}))


def knowing(program, pairs):
    """[0.16]: the knowing of the innermost seen call, or None if main has been left."""
    told = set()
    for (standing, frames), begins in pairs:
        if not frames:
            return None
        name, place, own = frames[-1]
        told.add((begins[-1], (place, standing, own)))
    return (name, tuple(sorted(told)))


def sure_logs(program, many):
    """All logs as of `all_logs`, or None if with more open calls still other situations may be reached."""
    logs = all_logs(program, many, 6)
    return logs if logs == all_logs(program, many, 4) else None


def context(program, logs, log):
    """[0.18]: the context of the innermost seen call at a log, which has not been left."""
    entered = []
    for at, line in enumerate(log):
        if line[0] == "enter":
            entered.append(at)
        if line[0] == "leave":
            entered.pop()
    name, pairs = knowing(program, logs[log[:entered[-1] + 1]])
    return (name, tuple(begin for begin, now in pairs))


def can_write(program, situation, deeper):
    """Whether silent moves lead to a line, or main has been left, with at most so many calls more open than are now."""
    if not situation[1]:
        return True
    most = len(situation[1]) + deeper
    found = {situation}
    work = [situation]
    while work:
        for line, behind in moves(program, work.pop()):
            if line is not None:
                return True
            if len(behind[1]) <= most and behind not in found:
                found.add(behind)
                work.append(behind)
    return False


def shortest_stuck(program, most, deeper):
    """The least number of moves of a stuck run, None if there is none with at most so many."""
    newest = {situation for situation, begins in beginnings(program)}
    seen = set(newest)
    for many in range(most + 1):
        if any(not can_write(program, situation, deeper) for situation in newest):
            return many
        newest = {behind for situation in newest for line, behind in moves(program, situation)} - seen
        seen |= newest
    return None


def is_split(lines):
    """[0.22]: whether these lines that come next are neither one alone nor all asked with one word."""
    return len(lines) > 1 and len({line[:2] if line[0] == "ask" else line for line in lines}) > 1
