"""Lengths: how many lines can follow at a log."""

from showncalls.know.codes import bits_of


class Lengths:
    """With how many more lines the logs of a program can go on.

    This is found from single nows: at a log with many of them, one alone has to go on.
    """

    def __init__(self, mind):
        self._mind = mind
        # By triples (procedure, code of a now, number of lines).
        self._stays = {}
        self._ends = {}

    def go_to(self, mind):
        """Go on with another mind of the same program."""
        self._mind = mind

    def can_follow(self, position, many):
        """Whether a log with this position goes on with just so many lines."""
        knowing, below = position
        if knowing is None:
            return many == 0
        # By the numbers of lines that are still due: where some run is then, in the calls that are left one by one.
        due = {many: knowing}
        while due:
            if any([self._stays_in(due[lines], lines) for lines in due]):
                return True
            left = self._left_behind(self._mind.called_by(knowing), due)
            if below is None:
                return 0 in left
            knowing, below = below
            due = {lines: self._mind.joined_back(knowing, left[lines]) for lines in left}
        return False

    def _stays_in(self, knowing, many):
        name = self._mind.called_by(knowing)
        return any([self._can_stay(name, code, many) for begin, code in self._mind.codes_in(knowing)])

    def _left_behind(self, name, due):
        """By the numbers of lines that are still due behind the leave line of a procedure: the ends."""
        found = {}
        for lines in due:
            for begin, code in self._mind.codes_in(due[lines]):
                for many in range(1, lines + 1):
                    ends = self._ends_behind(name, code, many)
                    if ends:
                        masks = found.setdefault(lines - many, {})
                        masks[begin] = masks.get(begin, 0) | ends
        return {lines: self._mind.number_from(name, found[lines]) for lines in found}

    def _can_stay(self, name, code, many):
        """Whether from a now just so many lines can come without the leave line of its call."""
        if many == 0:
            return True
        if (name, code, many) not in self._stays:
            self._stays[name, code, many] = self._searched_stay(name, code, many)
        return self._stays[name, code, many]

    def _searched_stay(self, name, code, many):
        for line, mask in self._mind.lines_from(name, code):
            for behind in bits_of(mask) if line[0] != "leave" else []:
                if line[0] != "enter":
                    if self._can_stay(name, behind, many - 1):
                        return True
                elif self._stays_behind_call(name, behind, many - 1):
                    return True
        return False

    def _stays_behind_call(self, name, call, many):
        """Whether from behind the enter line of a call just so many lines can come, within it or behind it."""
        called, begin = self._mind.call_at(name, call)
        if self._can_stay(called, begin, many):
            return True
        for lines, behind in self._behind_call(name, call, many):
            if self._can_stay(name, behind, many - lines):
                return True
        return False

    def _behind_call(self, name, call, many):
        """The list of pairs of a number of lines, at most so many, and the code of a now behind a call to which just
        so many lines from behind its enter line lead."""
        called, begin = self._mind.call_at(name, call)
        found = []
        for lines in range(1, many + 1):
            ends = self._ends_behind(called, begin, lines)
            found.extend([(lines, behind) for behind in bits_of(self._mind.behind_call(name, call, called, ends))])
        return found

    def _ends_behind(self, name, code, many):
        """The mask of the ends with which just so many lines, the leave line as the last one, leave the call."""
        if many == 0:
            return 0
        if (name, code, many) not in self._ends:
            self._ends[name, code, many] = self._searched_ends(name, code, many)
        return self._ends[name, code, many]

    def _searched_ends(self, name, code, many):
        found = 0
        for line, mask in self._mind.lines_from(name, code):
            if line[0] == "leave":
                found = found | (mask if many == 1 else 0)
            elif line[0] != "enter":
                for behind in bits_of(mask):
                    found = found | self._ends_behind(name, behind, many - 1)
            else:
                for call in bits_of(mask):
                    for inner, behind in self._behind_call(name, call, many - 1):
                        found = found | self._ends_behind(name, behind, many - 1 - inner)
        return found
