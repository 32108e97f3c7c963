"""[0.1], [0.5], [0.7], [0.13], [1.1]: names, lines, logs by their form, rows of numbers."""

import itertools

from showncalls.base.words import is_line, is_log, is_name, open_calls, rows
from showncalls.errors import InvalidLog, InvalidNumber
from tests.helper import HUGE, MIRROR, ODD, Case

MAIN = ("enter", "main")
LINES = (
    ("enter", "p"), ("leave", "p"), ("say", "w"), ("say", "w", 0), ("say", "w", 3),
    ("ask", "w", 0), ("ask", "w", 3), ("enter", "abcdefgh"), ("enter", "enter"),
)
NO_LINES = ODD + (
    (), "", "enter", "say w", ("enter",), ("enter", "p", 0), ("leave", "p", 0), ("leave", "p", None),
    ("ask", "w"), ("ask", "w", 4), ("ask", "w", -1), ("ask", "w", True), ("ask", "w", False),
    ("ask", "w", None), ("say", "w", 4), ("say", "w", True), ("say", "w", None), ("say", "w", HUGE),
    ("say", "w", (1,)), ("say", "w", 1, 1), ("say", "W", 1), ("say", "", 1), ("say", "abcdefghi"), ("say", 1),
    ("say", None), ("say",), ("hide", "w"), ("Enter", "p"), (None, "p"), (True, "p"), (["enter"], "p"),
    (MIRROR, "p"), ("enter", MIRROR), ["enter", "p"], ["say", "w", 1], (("say",), "w"), ("say", ["w"]),
)
LOGS = (
    ((MAIN,), ("main",)),
    ((MAIN, ("leave", "main")), ()),
    ((MAIN, ("enter", "p"), ("say", "at", 1)), ("main", "p")),
    ((MAIN, ("enter", "main"), ("leave", "main")), ("main",)),
    ((MAIN, ("say", "w"), ("ask", "w", 0), ("enter", "p"), ("leave", "p"), ("enter", "q")), ("main", "q")),
    ((MAIN, ("enter", "p"), ("enter", "p"), ("leave", "p"), ("leave", "p"), ("leave", "main")), ()),
    ((MAIN,) * 3000, ("main",) * 3000),
)
NO_LOGS = ODD + (
    (), [MAIN], list(LOGS[2][0]), MAIN, (("leave", "main"),), (("say", "w"),), (("ask", "w", 0), MAIN),
    (MAIN, ("leave", "p")), (MAIN, ("enter", "p"), ("leave", "main")), (MAIN, ("enter", "p"), ("leave", "q")),
    (MAIN, ("leave", "main"), ("say", "w")), (MAIN, ("leave", "main"), MAIN),
    (MAIN, ("leave", "main"), ("leave", "main")), (MAIN, ("enter", "p"), ("leave", "p"), ("leave", "p")),
    (MAIN, ("say", "w", 4)), (MAIN, ("say", "w", True)), (MAIN, ["say", "w"]), (MAIN, None), (MAIN, (MAIN,)),
)


class Names(Case):
    def test_names(self):
        for value in ("a", "z", "m", "main", "abcdefgh", "zzzzzzzz", "set"):
            self.assertIs(is_name(value), True, value)

    def test_other_values(self):
        odd = ODD + ("abcdefghi", "", "A", "aB", "a_", "a.", "a ", " a", "a\n", "\n", "{", "`", "0", b"a", ("a",), ["a"])
        for value in odd:
            self.assertIs(is_name(value), False, value)


class Lines(Case):
    def test_lines(self):
        for value in LINES:
            self.assertIs(is_line(value), True, value)

    def test_other_values(self):
        for value in NO_LINES:
            self.assertIs(is_line(value), False, value)

    def test_each_number_that_a_cell_can_hold(self):
        for kind in ("ask", "say"):
            self.same([is_line((kind, "w", number)) for number in range(-1, 5)], [False] + [True] * 4 + [False])


class Logs(Case):
    def test_logs(self):
        for log, calls in LOGS:
            self.assertIs(is_log(log), True)
            self.same(open_calls(log), calls)

    def test_other_values(self):
        for value in NO_LOGS:
            self.assertIs(is_log(value), False, value)
            self.fails(InvalidLog, open_calls, value)

    def test_lines_alone_are_checked_too(self):
        for line in NO_LINES:
            self.assertIs(is_log((MAIN, line)), False, line)
            self.assertIs(is_log((line,)), False, line)

    def test_all_short_sequences_against_the_words_of_the_document(self):
        lines = (MAIN, ("enter", "p"), ("leave", "main"), ("leave", "p"), ("say", "w"))
        for length in range(6):
            for log in itertools.product(lines, repeat=length):
                self.assertIs(is_log(log), is_log_by_words(log), log)


def is_log_by_words(log):
    """[1.1], told by looking for the innermost open call of each leave anew."""
    if not log or log[0][0] != "enter":
        return False
    for at, line in enumerate(log):
        depths = [sum({"enter": 1, "leave": -1}.get(one[0], 0) for one in log[k:at]) for k in range(at)]
        if at > 0 and depths[0] == 0:
            return False
        if line[0] == "leave":
            entered = [k for k in range(at) if log[k][0] == "enter" and depths[k] == 1]
            if not entered or log[entered[-1]][1] != line[1]:
                return False
    return True


class Rows(Case):
    def test_rows(self):
        self.same(list(rows((2, 1, 2))), [(0, 0, 0), (0, 0, 1), (1, 0, 0), (1, 0, 1)])
        self.same(list(rows(())), [()])
        self.same(list(rows((1,))), [(0,)])
        self.same(list(rows((4,))), [(0,), (1,), (2,), (3,)])
        self.same(list(rows((1,) * 8)), [(0,) * 8])

    def test_all_short_ones_ascend_and_are_complete(self):
        for length in range(5):
            for sizes in itertools.product(range(1, 5), repeat=length):
                due = [row for row in itertools.product(*[range(size) for size in sizes])]
                self.assertEqual(list(rows(sizes)), due)

    def test_the_bounds(self):
        self.assertEqual(len(list(rows((4,) * 8))), 4 ** 8)
        for sizes in ((1,) * 9, (4,) * 9, (0,), (5,), (2, 5), (5, 2), (2, 0, 2), (-1,), (HUGE,)):
            self.same(self.fails(InvalidNumber, list, rows(sizes)).value, sizes)

    def test_other_values(self):
        wrong = tuple(value for value in ODD if repr(value) != "(1,)")
        wrong = wrong + ([2, 2], [], (True,), (2, True), (2, False), (2, None), (2, "a"), ((2,),), (2, [2]), {2: 2}, "22")
        for value in wrong:
            self.same(self.fails(InvalidNumber, list, rows(value)).value, value)

    def test_the_error_comes_with_the_first_value(self):
        made = rows((5,))
        self.fails(InvalidNumber, next, made)

    def test_it_is_a_generator(self):
        made = rows((2,))
        self.assertIs(iter(made), made)
        self.same([next(made), next(made), next(made, None)], [(0,), (1,), None])

    def test_calls_do_not_disturb_one_another(self):
        one, other = rows((2, 2)), rows((2, 2))
        self.same([next(one), next(one), next(other), next(one)], [(0, 0), (0, 1), (0, 0), (1, 0)])
