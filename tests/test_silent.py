"""[0.17], and the section of silent moves."""

from showncalls.base.programs import Procedure, Program
from showncalls.errors import InvalidOperation, InvalidProgram, UnknownName
from showncalls.know.silent import is_stuck, nows, passages
from tests import oracle
from tests.helper import HUGE, MIRROR, ODD, OUTER, Case
from tests.making import Maker

SAY = ("say", "w", None)
LOST = Program({"x": 2}, Procedure("main", (("if", "x", 1, (("call", "q", None, None),), ()), ("say", "w", None))), Procedure("q", (("call", "q", None, None),), quiet=True))
TURNS = Program({"x": 2}, Procedure("main", (("call", "p", None, None), ("say", "at", "x"))), Procedure("p", (("either", (("call", "p", None, None), ("set", "x", ("x",), (1, 0))), ()),), quiet=True))
# Each open call counts one up; from 3 on they are left, and what is given back is counted up, too.
COUNTS = Program({"n": 4}, Procedure("main", (("call", "p", "n", "n"), SAY)), Procedure("p", (
    ("if", "c", 3, (), (("set", "c", ("c",), (1, 2, 3, 0)), ("call", "p", "c", "d"), ("set", "c", ("d",), (1, 2, 3, 0)))),
), own=(("c", 4), ("d", 4)), quiet=True))


def all_nows(program, name):
    owns = [()]
    for cell, size in program[name].own:
        owns = [own + (number,) for own in owns for number in range(size)]
    standings = sorted({standing for standing, own in program.begins(program.main)})
    return [(place, standing, own) for place in range(len(program[name]) + 1) for standing in standings for own in owns]


def told_silently(program, name, now, deeper):
    """By the oracle: all situations to which silent moves lead from a now, as if main had called the procedure here."""
    # The procedure is not quiet here, and it stands alone, as if it were main.
    place, standing, own = now
    start = (standing, ((name, place, own),))
    found, work = {start}, [start]
    while work:
        situation = work.pop()
        for line, behind in oracle.bare_moves(program, *situation):
            inner = [frame[0] for frame in max(situation[1], behind[1], key=len)[1:]]
            written = line is not None and not any(program[one].quiet and (at > 0 or one != name) for at, one in enumerate(inner))
            if not written and len(behind[1]) <= deeper and behind not in found:
                found.add(behind)
                work.append(behind)
    return found


def seen_nows(program, name, now, deeper):
    found = told_silently(program, name, now, deeper)
    return tuple(sorted((frames[0][1], standing, frames[0][2]) for standing, frames in found if len(frames) == 1))


def quiet_ends(program, name, begin, deeper):
    """By the oracle: all (standing, own) with which a procedure can be left, if no line counts."""
    start = (begin[0], ((name, 0, begin[1]),))
    found, work, last = {start}, [start], len(program[name])
    while work:
        for line, behind in oracle.bare_moves(program, *work.pop()):
            if 0 < len(behind[1]) <= deeper and behind not in found:
                found.add(behind)
                work.append(behind)
    ends = {(standing, frames[0][2]) for standing, frames in found if len(frames) == 1 and frames[0][1] == last}
    return tuple(sorted(ends))


class Passages(Case):
    def test_without_calls(self):
        program = Program({"x": 2}, Procedure("main", ()), Procedure("p", (
            ("either", (("hide", "d"),), (("ask", "w", "x"), SAY)), ("often", (("set", "c", ("c",), (1, 2, 2)),)),
        ), own=(("c", 3), ("d", 2))))
        found = passages(program, "p")
        self.assertEqual(list(found), list(program.begins("p")))
        self.same(found[((0,), (2, 0))], (((0,), (2, 0)), ((0,), (2, 1)), ((1,), (2, 0))))
        self.same(found[((1,), (1, 0))], (((0,), (1, 0)), ((0,), (2, 0)), ((1,), (1, 0)), ((1,), (1, 1)), ((1,), (2, 0)),
                                          ((1,), (2, 1))))

    def test_of_main_and_of_empty_bodies(self):
        self.same(passages(OUTER, "main"), {((0,), (0,)): (((0,), (0,)), ((1,), (1,))), ((1,), (0,)): (((0,), (0,)), ((1,), (1,)))})
        program = Program({}, Procedure("main", ()), Procedure("p", (), own=(("c", 2),)))
        self.same([passages(program, "main"), passages(program, "p")],
                  [{((), ()): (((), ()),)}, {((), (0,)): (((), (0,)),), ((), (1,)): (((), (1,)),)}])

    def test_calls_that_take_and_give(self):
        found = passages(COUNTS, "p")
        self.assertEqual(list(found), list(COUNTS.begins("p")))
        # By the number with which it begins: what it gives back, and what it was given back itself.
        due = {3: (3, 0), 2: (0, 3), 1: (1, 0), 0: (2, 1)}
        for standing, own in found:
            self.same(found[standing, own], ((standing, due[own[0]]),))

    def test_calls_that_are_never_left(self):
        self.same(passages(LOST, "q"), {((0,), ()): (), ((1,), ()): ()})
        circle = Program({}, Procedure("main", (("call", "p", None, None),)), Procedure("p", (("call", "q", None, None),)),
                         Procedure("q", (("either", (("call", "p", None, None),), (("often", (SAY,)), ("call", "q", None, None))),)))
        self.same([passages(circle, name) for name in ("main", "p", "q")], [{((), ()): ()}] * 3)

    def test_rounds_without_an_end(self):
        program = Program({"x": 2}, Procedure("main", (("often", (("often", ()),)),)))
        self.same(passages(program, "main"), {((0,), ()): (((0,), ()),), ((1,), ()): (((1,), ()),)})

    def test_all_lines_are_silent(self):
        for quiet in (False, True):
            self.same(passages(MIRROR.with_quiet("p", quiet), "p"),
                      {((0,), ()): (((0,), ()), ((1,), ())), ((1,), ()): (((0,), ()), ((1,), ()))})

    def test_copies(self):
        found = passages(TURNS, "p")
        found.clear()
        self.assertEqual(len(passages(TURNS, "p")), 2)


class Nows(Case):
    def test_itself(self):
        for program in (MIRROR, OUTER, LOST, TURNS, COUNTS):
            for name in program.names:
                for now in all_nows(program, name):
                    self.assertIn(now, nows(program, name, now))

    def test_the_end_of_the_body(self):
        self.same(nows(OUTER, "main", (4, (1,), (0,))), ((4, (1,), (0,)),))
        self.same(is_stuck(OUTER, "main", (4, (1,), (0,))), False)

    def test_lines_end_it(self):
        self.same(nows(OUTER, "main", (0, (1,), (0,))), ((0, (1,), (0,)), (1, (1,), (0,)), (1, (1,), (1,))))
        self.same(nows(OUTER, "p", (0, (0,), (1,))), ((0, (0,), (1,)), (1, (0,), (1,))))
        self.same(nows(OUTER, "p", (0, (0,), (0,))), ((0, (0,), (0,)), (2, (0,), (0,))))

    def test_quiet_calls_are_passed(self):
        self.same(nows(TURNS, "main", (0, (1,), ())), ((0, (1,), ()), (1, (0,), ()), (1, (1,), ())))
        self.same(nows(COUNTS, "main", (0, (3,), ())), ((0, (3,), ()), (1, (3,), ())))
        self.same(nows(COUNTS, "main", (0, (2,), ())), ((0, (2,), ()), (1, (0,), ())))

    def test_a_quiet_procedure_as_if_it_were_not(self):
        # Its calls of itself write lines, but those of other quiet procedures do not, though they may call it.
        self.same(nows(TURNS, "p", (0, (0,), ())), ((0, (0,), ()), (1, (0,), ()), (3, (0,), ())))
        self.same(nows(TURNS, "p", (1, (0,), ())), ((1, (0,), ()),))
        self.same(is_stuck(LOST, "q", (0, (0,), ())), False)
        program = Program({"x": 2}, Procedure("main", ()), Procedure("p", (("call", "q", None, None), SAY), quiet=True),
                          Procedure("q", (("either", (("call", "p", None, None),), ()), ("set", "x", ("x",), (1, 0))), quiet=True))
        self.same(nows(program, "p", (0, (0,), ())), ((0, (0,), ()), (1, (0,), ()), (1, (1,), ())))
        self.same(nows(program, "q", (1, (0,), ())), ((1, (0,), ()), (2, (0,), ()), (2, (1,), ()), (3, (0,), ()), (3, (1,), ())))

    def test_stuck(self):
        self.same([is_stuck(LOST, "main", (place, (1,), ())) for place in range(4)], [True, True, False, False])
        self.same([is_stuck(LOST, "main", (place, (0,), ())) for place in range(4)], [False, True, False, False])
        still = Program({}, Procedure("main", (("often", ()), SAY)), Procedure("p", (("often", (("often", ()),)),)))
        self.same([is_stuck(still, "main", (0, (), ())), is_stuck(still, "p", (1, (), ()))], [False, False])
        seen = LOST.with_quiet("q", False)
        self.same(is_stuck(seen, "main", (0, (1,), ())), False)


class AgainstTheOracle(Case):
    def programs(self):
        maker = Maker(11, statements=6, most=3, quiet=0.6)
        for _ in range(120):
            yield maker.chance, maker.program()
        yield maker.chance, TURNS
        yield maker.chance, LOST
        yield maker.chance, COUNTS

    def test_passages(self):
        many = 0
        for chance, program in self.programs():
            for name in program.names:
                found = passages(program, name)
                self.assertEqual(list(found), list(program.begins(name)))
                for begin in chance.sample(sorted(found), min(3, len(found))):
                    due = quiet_ends(program, name, begin, 6)
                    # With less depth there may be fewer; what is there with more depth does not change any more.
                    if due == quiet_ends(program, name, begin, 4):
                        self.same(found[begin], due)
                        many += 1
                    else:
                        self.assertLessEqual(set(due), set(found[begin]))
        self.assertGreater(many, 300)

    def test_nows(self):
        many = 0
        for chance, program in self.programs():
            for name in program.names:
                there = all_nows(program, name)
                for now in chance.sample(there, min(4, len(there))):
                    due = seen_nows(program, name, now, 6)
                    if due == seen_nows(program, name, now, 4):
                        self.same(nows(program, name, now), due)
                        many += 1
                        ends = [program.statement(name, place) for place, standing, own in due]
                        goes_on = [statement is None or statement[0] in ("say", "ask")
                                   or statement[0] == "call" and (not program[statement[1]].quiet or statement[1] == name)
                                   for statement in ends]
                        self.assertIs(is_stuck(program, name, now), not any(goes_on))
        self.assertGreater(many, 500)


class Wrong(Case):
    NO_NOWS = ODD + (
        (), (0,), (0, (0,)), (0, (0,), (0,), 0), [0, (0,), (0,)], (5, (0,), (0,)), (-1, (0,), (0,)), (True, (0,), (0,)),
        (None, (0,), (0,)), (HUGE, (0,), (0,)), (0, (2,), (0,)), (0, (), (0,)), (0, [0], (0,)), (0, (False,), (0,)),
        (0, (0,), ()), (0, (0,), (2,)), (0, (0,), (0, 0)), (0, (0,), [0]), (0, (0,), (True,)), (0, 0, 0), ((0,), (0,), (0,)),
    )

    def test_no_programs(self):
        for value in ODD:
            if not isinstance(value, Program):
                for call, rest in ((passages, ("p",)), (passages, (None,)), (nows, (None, None)), (is_stuck, ("main", None))):
                    self.fails(InvalidProgram, call, value, *rest)

    def test_no_names(self):
        for name in ODD + ("q", "n", ["main"], ("main",), "Main"):
            self.same(self.fails(UnknownName, passages, OUTER, name).name, name)
            for call in (nows, is_stuck):
                for now in ((0, (0,), (0,)), None):
                    self.same(self.fails(UnknownName, call, OUTER, name, now).name, name)

    def test_no_nows(self):
        for now in self.NO_NOWS:
            self.fails(InvalidOperation, nows, OUTER, "main", now)
            self.fails(InvalidOperation, is_stuck, OUTER, "main", now)
        self.fails(InvalidOperation, nows, OUTER, "p", (3, (0,), (0,)))
        self.fails(InvalidOperation, nows, MIRROR, "p", (0, (0,), (0,)))
