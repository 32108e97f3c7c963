"""[0.11] to [0.14], and the section of runs."""

import random

from showncalls.base.programs import Procedure, Program
from showncalls.errors import InvalidNumber, InvalidOperation, InvalidProgram, InvalidRun, TooMany
from showncalls.run.runs import MAX_MOVES, Run, is_situation, moves
from tests import oracle
from tests.helper import DEEP, HALF, HUGE, MIRROR, ODD, OUTER, Case
from tests.making import Maker

SAY = ("say", "w", None)
LOOP = Program({}, Procedure("main", (("often", (SAY,)),)))
# Of OUTER: the own cell a of main, c of p.
SITUATIONS = (
    ((0,), ()), ((1,), (("main", 0, (0,)),)), ((0,), (("main", 4, (1,)),)), ((0,), (("main", 1, (1,)), ("p", 0, (0,)))),
    ((1,), (("main", 1, (0,)), ("p", 2, (1,)))),
)
NO_SITUATIONS = ODD + (
    (), ((0,),), ((2,), ()), ((), ()), ((0, 0), ()), ((True,), ()), ([0], ()), (0, ()), ((0,), []), ((0,), None), ((0,), (), ()),
    [(0,), ()], ((0,), (None,)), ((0,), ("main",)), ((0,), (("main", 0),)), ((0,), (("main", 0, (0,), 0),)),
    ((0,), (["main", 0, (0,)],)), ((0,), (("q", 0, (0,)),)), ((0,), (("p", 0, (0,)),)), ((0,), (("main", 5, (0,)),)),
    ((0,), (("main", -1, (0,)),)), ((0,), (("main", True, (0,)),)), ((0,), (("main", None, (0,)),)),
    ((0,), (("main", HUGE, (0,)),)), ((0,), (("main", 0, ()),)), ((0,), (("main", 0, (2,)),)), ((0,), (("main", 0, (0, 0)),)),
    ((0,), (("main", 0, [0]),)), ((0,), (("main", 0, (False,)),)), ((0,), (("main", 0, (0,)), ("p", 0, (0,)))),
    ((0,), (("main", 1, (0,)), ("main", 0, (0,)))), ((0,), (("main", 1, (0,)), ("p", 3, (0,)))),
    ((0,), (("main", 1, (0,)), ("p", 0, (2,)))), ((0,), (("main", 4, (0,)), ("p", 0, (0,)))),
    ((0,), (("main", 1, (0,)), ("p", 0, (0,)), ("p", 0, (0,)))), ((0,), (((("main",), 0, (0,))),)),
    ((0,), ((MIRROR, 0, (0,)),)), ((0,), (({"main": 0}, 0, (0,)),)),
)


def walk(program, chance, many):
    """A run of at most so many moves by chance: its start, its choices, and its situations and lines by the oracle."""
    start = chance.choice(program.begins(program.main))[0]
    own = (0,) * len(program[program.main].own)
    situations, choices, lines = [(start, ((program.main, 0, own),))], [], []
    while len(choices) < many:
        found = oracle.moves(program, situations[-1])
        if not found:
            break
        choices.append(chance.randrange(len(found)))
        lines.append(found[choices[-1]][0])
        situations.append(found[choices[-1]][1])
    return start, tuple(choices), situations, lines


class Situations(Case):
    def test_situations(self):
        for value in SITUATIONS:
            self.assertIs(is_situation(OUTER, value), True, value)

    def test_other_values(self):
        for value in NO_SITUATIONS:
            self.assertIs(is_situation(OUTER, value), False, value)
            self.fails(InvalidOperation, moves, OUTER, value)

    def test_no_program(self):
        for value in ODD + (OUTER["p"], {"n": 2}):
            if not isinstance(value, Program):
                for situation in (SITUATIONS[0], None, ((2,), ())):
                    self.fails(InvalidProgram, is_situation, value, situation)
                    self.fails(InvalidProgram, moves, value, situation)

    def test_no_shared_cells(self):
        self.assertIs(is_situation(LOOP, ((), (("main", 0, ()),))), True)
        self.assertIs(is_situation(LOOP, ((), ())), True)
        self.assertIs(is_situation(LOOP, ((0,), ())), False)

    def test_any_depth(self):
        frames = (("main", 0, ()),) + (("p", 1, ()),) * 3000
        self.assertIs(is_situation(MIRROR, ((0,), frames)), True)
        self.assertIs(is_situation(MIRROR, ((0,), frames + (("p", 4, ()),))), True)
        self.assertIs(is_situation(MIRROR, ((0,), frames[:50] + (("p", 3, ()),) + frames[50:])), False)


class Moves(Case):
    def test_each_statement(self):
        body = (
            ("set", "x", (), (1,)), ("set", "y", ("x", "a"), (0, 1, 2, 0)), ("hide", "y"), ("ask", "w", "a"), ("say", "v", "y"),
            SAY, ("if", "x", 1, (), (SAY,)), ("either", (SAY,), (SAY,)), ("often", (SAY,)), ("either", (), ()), ("often", ()),
        )
        program = Program({"x": 2, "y": 3}, Procedure("main", body, own=(("a", 2),)))

        def at(place, x, y, a):
            return ((x, y), (("main", place, (a,)),))

        for situation, due in (
            (at(0, 0, 2, 1), ((None, at(1, 1, 2, 1)),)),
            (at(1, 1, 2, 0), ((None, at(2, 1, 2, 0)),)),
            (at(1, 0, 2, 1), ((None, at(2, 0, 1, 1)),)),
            (at(1, 1, 2, 1), ((None, at(2, 1, 0, 1)),)),
            (at(2, 0, 1, 1), tuple((None, at(3, 0, number, 1)) for number in (0, 1, 2))),
            (at(3, 0, 1, 1), tuple((("ask", "w", number), at(4, 0, 1, number)) for number in (0, 1))),
            (at(4, 0, 2, 1), ((("say", "v", 2), at(5, 0, 2, 1)),)),
            (at(5, 0, 2, 1), ((("say", "w"), at(6, 0, 2, 1)),)),
            (at(6, 1, 2, 1), ((None, at(8, 1, 2, 1)),)),
            (at(6, 0, 2, 1), ((None, at(7, 0, 2, 1)),)),
            (at(8, 0, 0, 0), ((None, at(9, 0, 0, 0)), (None, at(10, 0, 0, 0)))),
            (at(9, 0, 0, 0), ((("say", "w"), at(11, 0, 0, 0)),)),
            (at(11, 0, 0, 0), ((None, at(12, 0, 0, 0)), (None, at(13, 0, 0, 0)))),
            (at(12, 0, 0, 0), ((("say", "w"), at(11, 0, 0, 0)),)),
            (at(13, 0, 0, 0), ((None, at(14, 0, 0, 0)),) * 2),
            (at(14, 0, 0, 0), ((None, at(14, 0, 0, 0)), (None, at(15, 0, 0, 0)))),
            (at(15, 1, 2, 1), ((("leave", "main"), ((1, 2), ())),)),
            (((1, 2), ()), ()),
        ):
            self.same(moves(program, situation), due)

    def test_calls(self):
        own = (("c", 2), ("d", 2))
        for given, taken in ((None, None), ("x", None), (None, "x"), ("a", "x"), ("x", "a"), ("a", "a"), ("x", "x")):
            program = Program({"x": 2}, Procedure("main", (("call", "p", given, taken),), own=(("a", 2),)),
                              Procedure("p", (("hide", "c"),), own=own))
            for x, a, c, d, behind in ((0, 1, 1, 1, 0), (1, 0, 0, 1, 1), (1, 1, 1, 0, 0), (0, 0, 1, 1, 1)):
                number = {None: 0, "x": x, "a": a}[given]
                situation = ((x,), (("main", 0, (a,)),))
                entered = ((x,), (("main", 0, (a,)), ("p", 0, (number, 0))))
                self.same(moves(program, situation), ((("enter", "p"), entered),))
                # Within the call, the shared cell has changed.
                situation = ((behind,), (("main", 0, (a,)), ("p", 1, (c, d))))
                left = ((c if taken == "x" else behind,), (("main", 1, (c if taken == "a" else a,)),))
                self.same(moves(program, situation), ((("leave", "p"), left),))

    def test_quiet_procedures(self):
        say, call = SAY, ("call", "r", None, None)
        program = Program({}, Procedure("main", (("call", "p", None, None), ("call", "q", None, None))),
                          Procedure("p", (call, say)), Procedure("q", (call, say, ("ask", "w", "a")), own=(("a", 2),), quiet=True),
                          Procedure("r", (say,)))

        def lines(*frames):
            return [line for line, behind in moves(program, ((), tuple((*frame, (0,) * (frame[0] == "q")) for frame in frames)))]

        main = ("main", 0)
        self.same(lines(main), [("enter", "p")])
        self.same(lines(main, ("p", 0)), [("enter", "r")])
        self.same(lines(main, ("p", 0), ("r", 0)), [("say", "w")])
        self.same(lines(main, ("p", 0), ("r", 1)), [("leave", "r")])
        self.same(lines(main, ("p", 2)), [("leave", "p")])
        main = ("main", 1)
        # Neither enter nor leave of the quiet one, nor anything below it, at any depth.
        self.same(lines(main), [None])
        self.same([lines(main, ("q", place)) for place in range(4)], [[None], [None], [None, None], [None]])
        self.same([lines(main, ("q", 0), ("r", place)) for place in range(2)], [[None], [None]])
        self.same(lines(("main", 2)), [("leave", "main")])

    def test_quiet_procedures_at_any_depth(self):
        call = ("call", "p", None, None)
        program = Program({}, Procedure("main", (("call", "q", None, None),)), Procedure("p", (("either", (call,), (SAY,)),)),
                          Procedure("q", (call,), quiet=True))
        for depth in (1, 2, 50):
            frames = (("main", 0, ()), ("q", 0, ())) + (("p", 1, ()),) * depth
            self.same([line for line, behind in moves(program, ((), frames))], [None])
            self.same([line for line, behind in moves(program, ((), frames[:-1] + (("p", 2, ()),)))], [None])

    def test_against_the_oracle(self):
        maker = Maker(7, statements=8, most=4)
        for _ in range(150):
            program = maker.program()
            start, choices, situations, lines = walk(program, maker.chance, 25)
            for situation in situations:
                self.assertIs(is_situation(program, situation), True)
                self.same(moves(program, situation), tuple(oracle.moves(program, situation)))


class Making(Case):
    def test_against_the_oracle(self):
        maker = Maker(8, statements=8, most=4)
        for _ in range(200):
            program = maker.program()
            start, choices, situations, lines = walk(program, maker.chance, 30)
            for run in (Run(program, start, *choices), Run.of(program, start, choices)):
                self.assertTrue(run.program == program)
                self.same([run.start, run.choices, run.situations], [start, choices, tuple(situations)])
                self.same([run.situation, run.standing], [situations[-1], situations[-1][0]])
                log = (("enter", program.main),) + tuple(line for line in lines if line is not None)
                self.same(run.log, log)
                self.assertIs(run.is_shown, not lines or lines[-1] is not None)
                self.same(run.next_moves(), tuple(oracle.moves(program, situations[-1])))
                self.assertEqual(len(run), len(choices))
                self.assertEqual(str(run), f"run of {len(choices)} moves, {len(log)} lines")

    def test_no_moves(self):
        for run in (Run(OUTER, (1,)), Run.of(OUTER, (1,), ())):
            self.same([run.log, run.choices, run.situations], [(("enter", "main"),), (), (((1,), (("main", 0, (0,)),)),)])
            self.same([run.is_shown, len(run), str(run), run.standing], [True, 0, "run of 0 moves, 1 lines", (1,)])

    def test_to_the_end(self):
        run = Run(OUTER, (1,), 0, 0, 0, 0, 0, 0, 0)
        self.same(run.situation, ((0,), ()))
        self.same([run.log[-1], run.next_moves(), run.is_shown], [("leave", "main"), (), True])
        self.fails(InvalidRun, Run, OUTER, (1,), 0, 0, 0, 0, 0, 0, 0, 0)
        self.fails(InvalidOperation, lambda: run + 0)

    def test_no_programs(self):
        for value in ODD:
            if not isinstance(value, Program):
                self.fails(InvalidProgram, Run, value, (0,))
                self.fails(InvalidProgram, Run, value, None, None)
                self.fails(InvalidProgram, Run.of, value, (0,), ())
                self.fails(InvalidProgram, Run.of, value, None, None)

    def test_no_starts(self):
        for value in ODD + ((), (2,), (0, 0), [0], (True,), (False,), 0, "0", ((0,),)):
            if repr(value) != "(1,)":
                self.fails(InvalidRun, Run, OUTER, value)
                self.fails(InvalidRun, Run, OUTER, value, 0)
                self.fails(InvalidRun, Run.of, OUTER, value, ())
                self.fails(InvalidRun, Run, OUTER, value, *[0] * 1001)

    def test_no_choices(self):
        for value in ODD + ([0], (0,), "0", -1, 2, True, False):
            if repr(value) not in ("0", "1"):
                self.fails(InvalidRun, Run, OUTER, (0,), value)
                self.fails(InvalidRun, Run.of, OUTER, (0,), (value,))
                self.fails(InvalidRun, Run, OUTER, (0,), 0, value)
            if not isinstance(value, tuple):
                self.fails(InvalidRun, Run.of, OUTER, (0,), value)
        # The second move is a call, which is one move alone.
        self.fails(InvalidRun, Run, OUTER, (0,), 1, 1)
        self.fails(InvalidRun, Run.of, OUTER, (0,), (1, 0, 1))

    def test_a_thousand_moves(self):
        self.assertEqual(MAX_MOVES, 1000)
        for program in (LOOP, MIRROR):
            run = Run(program, (0,) * len(program.shared), *[0] * 1000)
            self.assertEqual(len(run), 1000)
            for many in (1001, 1002, 1500):
                self.assertEqual(self.fails(TooMany, Run, program, run.start, *[0] * many).limit, 1000)
                self.assertEqual(self.fails(TooMany, Run.of, program, run.start, (0,) * many).limit, 1000)
                self.fails(InvalidRun, Run.of, program, run.start, (0,) * many + (2,))
                self.fails(InvalidRun, Run.of, program, run.start, (0,) * 1000 + (True,) + (0,) * many)
            self.assertEqual(self.fails(TooMany, lambda: run + 0).limit, 1000)
            self.fails(InvalidOperation, lambda: run + 2)
            self.assertEqual(len(run.back() + 0), 1000)
        self.assertEqual(len(Run(MIRROR, (0,), *[0] * 1000).situation[1]), 501)


class Using(Case):
    def test_one_more_move(self):
        maker = Maker(9, statements=8, most=4)
        for _ in range(60):
            program = maker.program()
            start, choices, situations, lines = walk(program, maker.chance, 12)
            run = Run(program, start)
            for at, choice in enumerate(choices):
                longer = run + choice
                self.same([run.choices, run.situations], [choices[:at], tuple(situations[:at + 1])])
                due = Run.of(program, start, choices[:at + 1])
                self.assertTrue(longer == due)
                self.same([longer.log, longer.situations, longer.is_shown], [due.log, due.situations, due.is_shown])
                run = longer

    def test_no_index_of_a_move(self):
        run = Run(OUTER, (0,))
        for value in ODD + (True, False, -1, 2, "0", [0], (0,), Run(OUTER, (0,))):
            if repr(value) not in ("0", "1"):
                self.fails(InvalidOperation, lambda: run + value)
        self.fails(InvalidOperation, lambda: run + 1 + 1)
        self.same([run.choices, run.log], [(), (("enter", "main"),)])

    def test_back(self):
        run = Run(OUTER, (0,), 1, 0, 0, 0)
        for many in range(5):
            self.assertTrue(run.back(many=many) == Run.of(OUTER, (0,), run.choices[:4 - many]))
            self.same(run.back(many=many).situations, run.situations[:5 - many])
        self.assertTrue(run.back() == Run(OUTER, (0,), 1, 0, 0))
        self.same(run.choices, (1, 0, 0, 0))
        for value in ODD + (5, -1, True, False, "1", [1], (1,), HUGE):
            if repr(value) not in ("0", "1", "2", "3", "4"):
                self.same(self.fails(InvalidNumber, run.back, many=value).value, value)
        self.same(self.fails(InvalidNumber, Run(OUTER, (0,)).back).value, 1)
        with self.assertRaises(TypeError):
            run.back(1)

    def test_shown(self):
        run = Run(OUTER, (0,), 1, 0, 0, 0, 0, 0)
        self.same([Run.of(OUTER, (0,), run.choices[:many]).shown().choices for many in range(7)],
                  [(), (), (1, 0), (1, 0), (1, 0, 0, 0), (1, 0, 0, 0, 0), (1, 0, 0, 0, 0)])
        self.assertTrue(run.shown().is_shown)
        self.assertEqual(run.shown().log, run.log)
        maker = Maker(10)
        for _ in range(60):
            program = maker.program()
            start, choices, situations, lines = walk(program, maker.chance, 12)
            run = Run.of(program, start, choices)
            longest = max([0] + [at + 1 for at, line in enumerate(lines) if line is not None])
            self.assertTrue(run.shown() == Run.of(program, start, choices[:longest]))
            self.assertTrue(run.shown().shown() == run.shown())

    def test_equality(self):
        run = Run(OUTER, (0,), 1, 0)
        self.same([run == Run.of(OUTER, (0,), (1, 0)), run != Run.of(OUTER, (0,), (1, 0))], [True, False])
        other = OUTER.with_quiet("p", True)
        for value in ODD + (Run(OUTER, (1,), 1, 0), Run(OUTER, (0,), 0, 0), Run(OUTER, (0,), 1), Run(other, (0,), 1, 0), (1, 0)):
            self.same([run == value, run != value], [False, True])

    def test_it_never_changes(self):
        run = Run(OUTER, (0,), 1, 0)
        for name in ("program", "start", "choices", "log", "situations", "situation", "standing", "is_shown"):
            with self.assertRaises(AttributeError):
                setattr(run, name, ())
        for call in (iter, list, tuple):
            with self.assertRaises(TypeError):
                call(run)
        self.assertTrue(run == Run(OUTER, (0,), 1, 0))

    def test_the_documents_programs(self):
        run = Run(DEEP, (2, 1), 0, 0, 0, 0)
        self.same([run.situation, run.log], [((1, 1), (("main", 1, ()), ("p", 3, ()))), (("enter", "main"), ("enter", "p"))])
        run = Run(HALF, (1, 0), 0, 0, 0, 0)
        self.same(run.log, (("enter", "main"), ("say", "a", 1), ("say", "b", 1), ("leave", "main")))

    def test_equal_calls_return_equal_results(self):
        chance = random.Random(3)
        start, choices, situations, lines = walk(MIRROR, chance, 20)
        one, other = Run.of(MIRROR, start, choices), Run.of(MIRROR, start, choices)
        self.same([one.situations, one.next_moves()], [other.situations, other.next_moves()])
