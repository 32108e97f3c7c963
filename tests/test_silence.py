"""[0.22], [0.25], [16.1]: stuck runs and silent programs."""

from showncalls.base.programs import Procedure, Program
from showncalls.compare.silent import is_silent, is_silent_paper, is_stuck_run, silent_paper
from showncalls.errors import InvalidProgram, InvalidRun, TooMany
from showncalls.give.left import Left
from showncalls.know.tables import Table
from showncalls.know.watchers import Watcher
from showncalls.run.runs import Run
from tests import oracle
from tests.growing import bent, grown
from tests.helper import DEEP, HALF, MIRROR, ODD, OUTER, Case
from tests.making import HUGE_LOGS, SAY, Maker, call, procedure, straight_log, with_knowings, with_lines, with_moves

MAIN, LEFT = ("enter", "main"), ("leave", "main")
LOST = Program({"x": 2}, Procedure("main", (("if", "x", 1, (("call", "q", None, None),), ()), ("say", "w", None))), Procedure("q", (("call", "q", None, None),), quiet=True))
ASKS = Program({"x": 2}, Procedure("main", (("hide", "x"), ("ask", "w", "x"), ("say", "end", None))))
RING = procedure("z", call("z"), quiet=True)
# Behind q, x may be 1, and then no line comes; but it is q that decides.
INNER = Program({"x": 2}, procedure("main", call("q"), ("if", "x", 1, (call("z"),), ()), SAY),
                procedure("q", call("r"), quiet=True), procedure("r", ("either", (("set", "x", (), (1,)),), (("set", "x", (), (0,)),))), RING)


def stuck_behind(more):
    """A program whose shortest stuck run has 1000 moves, and so many more or less."""
    program = with_moves(more)
    body = program["main"].body[:-1] + (("hide", "x"), ("if", "x", 1, (call("z"),), ()), SAY)
    return Program.of(program.shared, (procedure("main", *body),) + program.procedures[1:] + (RING,))


def following(program, log):
    return Watcher.along(program, log).lines()


class StuckRuns(Case):
    def test_rings_of_quiet_calls(self):
        self.same([is_stuck_run(LOST, (1,), ()), is_stuck_run(LOST, (1,), (0, 0, 0, 0)), is_stuck_run(LOST, (0,), ()), is_stuck_run(LOST, (0,), (0, 0))],
                  [True, True, False, False])
        three = Program({}, procedure("main", ("either", (call("p"),), ())), procedure("p", call("q"), quiet=True), procedure("q", call("r"), quiet=True),
                        procedure("r", ("either", (call("p"),), (call("q"),)), quiet=True))
        self.same([is_stuck_run(three, (), choices) for choices in ((), (0,), (1,), (0, 0), (0, 0, 0, 0, 1), (1, 0))],
                  [False, True, False, True, True, False])

    def test_main_left(self):
        program = Program({"x": 2}, procedure("main", ("either", (SAY,), ())))
        self.same([is_stuck_run(program, (0,), choices) for choices in ((), (0,), (1,), (1, 0), (0, 0), (0, 0, 0))], [False] * 6)
        self.same([silent_paper(program)[0], is_silent(Program({}, procedure("main")))], ["split", True])

    def test_a_ring_without_calls(self):
        # A round can always be left; a call that is seen writes a line.
        program = Program({}, procedure("main", ("often", (("either", (), ()),)), ("often", (("often", ()),))))
        self.same([is_stuck_run(program, (), choices) for choices in ((), (0,), (0, 0), (0, 1, 0), (1, 0))], [False] * 5)
        seen = Program({}, procedure("main", call("p")), procedure("p", call("p")))
        self.same([is_stuck_run(seen, (), (0,) * many) for many in (0, 1, 5, 1000)], [False] * 4)
        self.assertIs(is_silent(seen), True)
        self.assertIs(is_silent(seen.with_quiet("p", True)), False)

    def test_what_is_decided_within_quiet_calls(self):
        self.same([is_stuck_run(INNER, (0,), choices) for choices in ((), (0,), (0, 0), (0, 0, 0), (0, 0, 1), (0, 0, 0, 0), (0, 0, 1, 0), (0,) * 8)],
                  [False, False, False, True, False, True, False, True])
        self.same(silent_paper(INNER)[0], "stuck")
        self.same(len(silent_paper(INNER)[1][1]), 3)
        # A procedure that is not quiet is not seen within a quiet one; seen, its line comes first.
        bare = INNER.with_quiet("q", False)
        self.same([is_stuck_run(bare, (0,), (0, 0, 0)), is_stuck_run(bare, (0,), (0, 0, 0, 0, 0, 0))], [False, True])

    def test_results_that_decide(self):
        # The call gives back what it has hidden; with 1 no line comes.
        program = Program({}, procedure("main", call("q", None, "a"), ("if", "a", 1, (call("z"),), ()), own=(("a", 2),)),
                          procedure("q", ("hide", "b"), own=(("b", 2),), quiet=True), RING)
        self.same([is_stuck_run(program, (), choices) for choices in ((0,), (0, 0), (0, 1), (0, 1, 0), (0, 0, 0))], [False, False, True, True, False])

    def test_deep_quiet_calls(self):
        # Each one turns the number that the next one gives back; with 1 no line comes at last.
        turned = [procedure(name, call(following, None, "a"), ("set", "a", ("a",), (1, 0)), own=(("a", 2),), quiet=True) for name, following in zip("bcdef", "cdefg")]
        last = procedure("g", ("either", (("set", "a", (), (0,)),), (("set", "a", (), (1,)),)), own=(("a", 2),))
        for depth in range(1, 6):
            main = procedure("main", call(turned[5 - depth].called, None, "a"), ("if", "a", 1, (call("z"),), ()), SAY, own=(("a", 2),))
            program = Program({}, main, *turned[5 - depth:], last, RING)
            # Turned an odd number of times, 0 is what is left at last without a line.
            for index in (0, 1):
                stuck = index == 1 if depth % 2 == 0 else index == 0
                choices = (0,) * (depth + 1) + (index,)
                self.same([is_stuck_run(program, (), choices[:-1]), is_stuck_run(program, (), choices), is_stuck_run(program, (), choices + (0,))], [False, stuck, stuck])
                if stuck:
                    self.same(silent_paper(program), ("stuck", ((), choices)))

    def test_a_ring_that_not_all_come_to(self):
        ring = procedure("z", ("if", "x", 1, (call("z"),), ()), quiet=True)
        program = Program({"x": 2}, procedure("main", ("hide", "x"), call("z"), SAY), ring)
        self.same([is_silent(program), silent_paper(program)], [False, ("stuck", ((0,), (1,)))])
        self.same([is_stuck_run(program, (1,), choices) for choices in ((), (0,), (1,), (0, 0, 0, 0), (1, 0, 0, 0))], [False, False, True, False, True])
        seen = Program({"x": 2}, procedure("main", call("p")), procedure("p", ("hide", "x"), ("if", "x", 1, (call("z"),), ()), SAY), ring)
        self.same([is_silent(seen), silent_paper(seen)[1][1]], [False, (0, 1)])

    def test_a_call_at_two_places(self):
        # The way to the first place is the shorter one.
        turn = ("set", "x", ("x",), (1, 0))
        inner = procedure("q", *[turn] * 8, ("hide", "x"), ("if", "x", 1, (call("z"),), ()), quiet=True)
        for body, index in ((((call("q"),), (*[turn] * 4, call("q"))), 0), (((*[turn] * 4, call("q")), (call("q"),)), 1)):
            program = Program({"x": 2}, procedure("main", ("either", *body), SAY), inner, RING)
            self.same(silent_paper(program)[1][1], (index, 0) + (0,) * 8 + (1,))

    def test_against_all_runs(self):
        many = {True: 0, False: 0}
        for seed in range(150):
            maker = Maker(seed + 2700, statements=5, quiet=0.8)
            program = maker.program()
            for _ in range(6):
                run = Run(program, maker.chance.choice(program.begins("main"))[0])
                for _ in range(maker.chance.randint(0, 8)):
                    found = run.next_moves()
                    run = run + maker.chance.randrange(len(found)) if found else run
                due = [not oracle.can_write(program, run.situation, deeper) for deeper in (4, 6)]
                if due[0] == due[1]:
                    self.assertIs(is_stuck_run(program, run.start, run.choices), due[0])
                    self.assertIs(is_silent_paper(program, ("stuck", (run.start, run.choices))), due[0])
                    many[due[0]] += 1
        self.assertGreater(min(many.values()), 40)

    def test_errors(self):
        for value in ODD:
            if not isinstance(value, Program):
                self.fails(InvalidProgram, is_stuck_run, value, None, None)
        for start in ODD + ((2,), (0, 0), (True,), [0], ()):
            if start != (1,):
                self.fails(InvalidRun, is_stuck_run, LOST, start, None)
                self.fails(InvalidRun, is_stuck_run, LOST, start, (0,) * 1001)
        for choices in ODD + ((1,), (0, 0, 1), (True,), (-1,), [0], (0,) * 2 + (None,), "0", (0,) * 5 + (0, 0, 0, 9)):
            if choices != ():
                self.fails(InvalidRun, is_stuck_run, LOST, (0,), choices)
        self.assertIs(is_stuck_run(LOST, (1,), (0,) * 1000), True)
        self.assertEqual(self.fails(TooMany, is_stuck_run, LOST, (1,), (0,) * 1001).limit, 1000)
        self.fails(InvalidRun, is_stuck_run, LOST, (1,), (0,) * 1001 + (1,))


class Silent(Case):
    def test_the_documents_programs(self):
        self.same([is_silent(program) for program in (MIRROR, DEEP, OUTER, HALF, LOST, ASKS, HUGE_LOGS)], [False, False, False, False, False, True, True])
        self.same(silent_paper(ASKS), ("silent", Table(ASKS).as_dict()))
        self.same(silent_paper(LOST), ("stuck", ((1,), ())))
        self.same(silent_paper(HALF), ("split", (MAIN,), ("say", "a", 0), ("say", "a", 1)))

    def test_lines_that_may_come_together(self):
        for body, due in (
            ((("ask", "w", "x"),), True), ((("say", "w", "x"),), False), ((("either", (SAY,), (SAY,)),), True),
            ((("either", (SAY,), ()),), False), ((("either", (("ask", "w", "x"),), (("ask", "v", "x"),)),), False),
            ((("either", (("ask", "w", "x"), SAY), (("ask", "w", "x"), SAY)),), True), ((("often", (SAY,)),), False),
            ((("either", (("ask", "w", "x"),), (("say", "w", "x"),)),), False), ((("either", (("ask", "w", "x"),), (SAY,)),), False),
            ((("set", "x", (), (1,)), ("say", "w", "x")), True), ((("hide", "x"), ("if", "x", 1, (SAY,), (SAY,))), True),
            ((("ask", "w", "x"), ("if", "x", 1, (SAY,), ())), True), ((("hide", "x"), ("if", "x", 1, (SAY,), ())), False),
        ):
            program = Program({"x": 2}, procedure("main", *body))
            self.same([is_silent(program), silent_paper(program)[0]], [due, "silent" if due else "split"])

    def test_a_split_comes_first(self):
        # One run is stuck, too, and with fewer moves.
        program = Program({"x": 2}, procedure("main", ("if", "x", 1, (call("z"),), ()), SAY, ("either", (SAY,), ())), RING)
        self.same(silent_paper(program), ("split", (MAIN, ("say", "w")), LEFT, ("say", "w")))
        self.same([is_silent_paper(program, ("stuck", ((1,), choices))) for choices in ((), (0,), (0, 0))], [True] * 3)
        self.same(is_silent(program), False)

    def test_against_all_logs_and_runs(self):
        many = {"silent": 0, "split": 0, "stuck": 0}
        for seed in range(300):
            program = Maker(seed + 2800, statements=5, quiet=0.7).program()
            paper = silent_paper(program)
            many[paper[0]] += 1
            self.same([is_silent_paper(program, paper), is_silent(program)], [True, paper[0] == "silent"])
            logs = oracle.sure_logs(program, 4)
            split = [len(log) for log in logs if oracle.is_split(oracle.behind_lines(program, logs[log], 5))] if logs is not None else []
            if split:
                self.same([paper[0], len(paper[1])], ["split", min(split)])
            fewest = [oracle.shortest_stuck(program, 6, deeper) for deeper in (5, 7)]
            if paper[0] == "stuck" and fewest[0] == fewest[1]:
                self.assertTrue(len(paper[1][1]) == fewest[0] if fewest[0] is not None else len(paper[1][1]) > 6)
            if paper[0] == "silent":
                self.same(fewest, [None, None])
        self.assertGreater(min(many.values()), 20)

    def test_nothing_is_narrowed(self):
        """[0.22]: in silent programs each knowing has all begins, and each other choice has a run with the same log."""
        some = 0
        for seed in range(250):
            maker = Maker(seed + 3100, statements=6, quiet=0.7)
            program = maker.program()
            if not is_silent(program):
                continue
            table = Table(program)
            for context in table.contexts:
                for name, pairs in table[context]:
                    self.assertEqual(tuple(sorted({begin for begin, now in pairs})), context[1])
            run = Run(program, maker.chance.choice(program.begins("main"))[0])
            for _ in range(12):
                found = run.next_moves()
                run = run + maker.chance.randrange(len(found)) if found else run
            shown = run.shown()
            for at in range(len(shown)):
                before = Run.of(program, shown.start, shown.choices[:at])
                lines = [line for line, behind in before.next_moves()]
                if lines[shown.choices[at]] is None:
                    for index in range(len(lines)):
                        some += index != shown.choices[at]
                        self.assertTrue(can_complete(program, before + index, shown.log))
        self.assertGreater(some, 60)

    def test_what_is_known_of_silent_programs(self):
        # All begins of main stay possible, but what is left in shared cells may still be known.
        program = Program({"x": 2}, procedure("main", ("set", "x", (), (1,)), SAY))
        self.same([is_silent(program), [fact.standings for fact in Left(program).sets]], [True, [((1,),)]])


def can_complete(program, run, log):
    """Whether some shown run with this log begins with a run."""
    newest = {(run.situation, len(run.log))}
    seen = set(newest)
    while newest:
        if any(many == len(log) for situation, many in newest):
            return run.log == log[:len(run.log)]
        behind_all = set()
        for situation, many in newest:
            for line, behind in oracle.moves(program, situation):
                if len(behind[1]) <= len(log) + 8 and (line is None or log[many:many + 1] == (line,)):
                    behind_all.add((behind, many + (line is not None)))
        newest = behind_all - seen
        seen |= newest
    return False


class Judged(Case):
    def test_bent_papers(self):
        for seed in range(120):
            maker = Maker(seed + 3400, statements=5, quiet=0.6)
            program = maker.program()
            paper = silent_paper(program)
            if paper[0] == "silent":
                others = list(bent(paper[1]))
                for other in maker.chance.sample(others, min(5, len(others))):
                    self.assertIs(is_silent_paper(program, ("silent", other)), False)
            elif paper[0] == "split":
                _, log, line, other = paper
                self.assertIs(is_silent_paper(program, ("split", log, other, line)), True)
                self.assertIs(is_silent_paper(program, ("silent", Table(program).as_dict())), False)
                for fewer in [log[:at] for at in range(len(log))] + [log[:at] + log[at + 1:] for at in range(1, len(log))]:
                    due = fewer and all(part in self.following(program, fewer) for part in (line, other))
                    self.assertIs(is_silent_paper(program, ("split", fewer, line, other)), bool(due))
                for same in ((line, line), (other, other), (line, ("say", "zzz")), (("say", "zzz"), other), (line, None)):
                    self.assertIs(is_silent_paper(program, ("split", log, *same)), False)
            else:
                start, choices = paper[1]
                for at in range(len(choices)):
                    self.assertIs(is_silent_paper(program, ("stuck", (start, choices[:at]))), False)
                self.assertIs(is_silent_paper(program, ("silent", Table(program).as_dict())), False)

    def following(self, program, log):
        try:
            return following(program, log)
        except (ValueError, LookupError):
            return ()

    def test_two_lines_asked_with_one_word(self):
        program = Program({"x": 3, "y": 3}, procedure("main", ("either", (("ask", "w", "x"),), (("ask", "w", "y"),)), ("either", (("ask", "w", "x"),), (SAY,))))
        ahead = (MAIN,)
        self.assertIs(is_silent_paper(program, ("split", ahead, ("ask", "w", 0), ("ask", "w", 1))), False)
        behind = ahead + (("ask", "w", 2),)
        self.same([is_silent_paper(program, ("split", behind, ("ask", "w", 0), other)) for other in (("ask", "w", 1), ("say", "w"), ("ask", "w", 0))],
                  [False, True, False])
        paper = silent_paper(program)
        self.same([paper[0], len(paper[1]), {paper[2][0], paper[3][0]}], ["split", 2, {"ask", "say"}])

    def test_logs_of_any_length(self):
        program = Program({}, procedure("main", ("often", (SAY,))))
        for many in (0, 1, 2000, 3000):
            log = (MAIN,) + (("say", "w"),) * many
            self.same([is_silent_paper(program, ("split", log + rest, LEFT, ("say", "w"))) for rest in ((), (LEFT,))], [True, False])

    def test_two_thousand_lines(self):
        for more in (0, 1, 2):
            program = with_lines(more)
            program = program.with_procedure(procedure("main", *program["main"].body[:-1], ("either", (("say", "a", None),), (("say", "b", None),))))
            log = straight_log(with_lines(more))[:-2]
            self.same([len(log), is_silent(program)], [1999 + more, False])
            self.assertIs(is_silent_paper(program, ("split", log, ("say", "b"), ("say", "a"))), True)
            if more < 2:
                self.assertEqual(silent_paper(program), ("split", log, ("say", "a"), ("say", "b")))
            else:
                self.assertEqual(self.fails(TooMany, silent_paper, program).limit, 2000)

    def test_a_thousand_moves_and_more(self):
        for more in (-1, 0, 1):
            program = stuck_behind(more)
            self.assertIs(is_silent(program), False)
            due = [("stuck", ((number,), (0,) * (999 + more) + (1,))) for number in (0, 1)]
            if more <= 0:
                paper = silent_paper(program)
                self.assertIn(paper, due)
                self.assertIs(is_stuck_run(program, *paper[1]), True)
            else:
                self.assertEqual(self.fails(TooMany, silent_paper, program).limit, 1000)
            for kind, (start, choices) in due:
                self.same([is_silent_paper(program, (kind, (start, choices[:-1] + rest))) for rest in ((), (0,), (1,), (1, 0), (1,) + (0,) * 5000)],
                          [False, False, True, True, True])
        # Within a seen call, and within a quiet one.
        turn, inner = ("set", "x", ("x",), (1, 0)), procedure("p", ("hide", "x"), ("if", "x", 1, (call("z"),), ()))
        for within, most in ((inner, 1), (procedure("u", call("p"), quiet=True), 0)):
            for more in (most, most + 1):
                program = with_moves(0)
                body = program["main"].body[:-1] + (turn,) * more + (call(within.called), SAY)
                program = Program.of(program.shared, (procedure("main", *body),) + program.procedures[1:3] + (procedure("t", *[turn] * 4, quiet=True), inner, RING)
                                     + (() if within == inner else (within,)))
                due = [("stuck", ((number,), (0,) * (999 + more - most) + (1,))) for number in (0, 1)]
                self.same([is_silent_paper(program, paper) for paper in due], [True, True])
                self.assertIs(is_silent(program), False)
                if more == most:
                    self.assertIn(silent_paper(program), due)
                else:
                    self.assertEqual(self.fails(TooMany, silent_paper, program).limit, 1000)
        # The frames pile up, too.
        self.assertIs(is_silent_paper(LOST, ("stuck", ((1,), (0,) * 30000))), True)
        self.assertIs(is_silent_paper(LOST, ("stuck", ((1,), (0,) * 30000 + (1,)))), False)

    def test_greater_tables(self):
        context = ("main", ASKS.begins("main"))
        begin = context[1][0]
        for now, due in (((0, (0,), ()), True), ((2, (1,), ()), True)):
            greater = grown(ASKS, [(context, ("main", ((begin, now),)))])
            self.assertNotEqual(greater, Table(ASKS).as_dict())
            self.assertIs(is_silent_paper(ASKS, ("silent", greater)), due)
        # One that no log leads to says two lines, and one none.
        program = Program({"x": 2}, procedure("main", ("set", "x", (), (1,)), ("if", "x", 0, (("either", (SAY,), (call("z"),)), ("either", (SAY,), ())), ())), RING)
        self.same([is_silent(program), silent_paper(program)[0]], [True, "silent"])
        context = ("main", program.begins("main"))
        for place, number, due in ((3, 0, False), (4, 0, True), (5, 0, False), (6, 0, True), (1, 0, False), (1, 1, True)):
            greater = grown(program, [(context, ("main", ((context[1][0], (place, (number,), ())),)))])
            self.assertIs(is_silent_paper(program, ("silent", greater)), due, (place, number))

    def test_another_programs_table(self):
        other = ASKS.with_procedure(procedure("main", ("ask", "w", "x"), ("hide", "x"), ("say", "end", None)))
        self.same([is_silent_paper(ASKS, ("silent", Table(program).as_dict())) for program in (ASKS, other)], [True, False])
        # The table has nothing of a run that is stuck in a call which no line enters.
        self.assertIs(is_silent_paper(LOST, ("silent", Table(LOST).as_dict())), False)

    def test_other_values(self):
        table = Table(ASKS).as_dict()
        for value in ODD + ((), ("silent",), ("silent", table, table), ["silent", table], ("Silent", table), (None, table), table, ("silent", None), ("silent", {}),
                            ("split", table), ("stuck", table), ("stuck", None), ("stuck", ()), ("stuck", ((0,),)), ("stuck", ((0,), ())), ("stuck", ((0,), (), ())),
                            ("split", (MAIN,), ("ask", "w", 0), ("ask", "w", 1)), ("split", (MAIN,), ("ask", "w", 0)), ("split", None, None, None), ("silent", (MAIN,))):
            self.assertIs(is_silent_paper(ASKS, value), False, value)
        self.assertIs(is_silent_paper(ASKS, ("silent", table)), True)
        for value in ODD + ((("stuck", [(1,), ()])), ("stuck", ((1,), [])), ("stuck", ((True,), ())), ("stuck", ((1,), (True,))), ("stuck", ((1,), (False,))), ("stuck", ([1], ())),
                            ("stuck", ((1,), (0, 1))), ("stuck", ((1,), (-1,))), ("stuck", ((1,), (None,))), ("stuck", ((1,), ((),))), ("stuck", ((2,), ())), ("stuck", ((1,), "")),
                            ("stuck", ((0,), ())), ("stuck", (1,), ()), ("stuck", ((1,), 0)), ("stuck", (None, ()))):
            self.assertIs(is_silent_paper(LOST, value), False, value)
        self.same([is_silent_paper(LOST, ("stuck", ((1,), choices))) for choices in ((), (0,), (0, 0))], [True] * 3)
        # Behind the leave of main there is no more move.
        self.same([is_silent_paper(LOST, ("stuck", ((0,), (0,) * many))) for many in range(6)], [False] * 6)
        good = ("split", (MAIN,), ("say", "a", 0), ("say", "a", 1))
        for value in ODD + (good[:3], good + good[3:], list(good), ("Split",) + good[1:], good[:2] + (["say", "a", 0],) + good[3:], good[:3] + (("say", "a", True),),
                            good[:2] + (("say", "a", False),) + good[3:], ("split", [MAIN], *good[2:]), ("split", MAIN, *good[2:]), ("split", (), *good[2:]), good[:3] + (("say", "b", 1),)):
            self.assertIs(is_silent_paper(HALF, value), False, value)
        self.assertIs(is_silent_paper(HALF, good), True)


class Wrong(Case):
    def test_errors(self):
        for value in ODD:
            if not isinstance(value, Program):
                self.fails(InvalidProgram, is_silent, value)
                self.fails(InvalidProgram, silent_paper, value)
                self.fails(InvalidProgram, is_silent_paper, value, None)

    def test_four_hundred(self):
        program = with_knowings(0)
        self.same([is_silent(program), silent_paper(program)[0]], [True, "silent"])
        self.assertIs(is_silent_paper(program, silent_paper(program)), True)
        for main in (program["main"].body, (("either", (SAY,), ()),) + program["main"].body, (("either", (SAY,), (call("z"),)),) + program["main"].body):
            # Also if two lines come, or a run is stuck, right behind the first line.
            great = with_knowings(1)
            great = Program.of(great.shared, (procedure("main", *main, own=(("a", 4),)),) + great.procedures[1:] + (RING,))
            for ask in (is_silent, silent_paper):
                self.assertEqual(self.fails(TooMany, ask, great).limit, 400)
        great = with_knowings(1)
        self.assertIs(is_silent_paper(great, ("silent", grown(great))), True)

    def test_what_is_returned_is_a_copy(self):
        paper = silent_paper(ASKS)
        paper[1].clear()
        self.same(silent_paper(ASKS), ("silent", Table(ASKS).as_dict()))
