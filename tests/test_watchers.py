"""[0.15] to [0.17], and the section of watchers."""

from showncalls.base.facts import Fact
from showncalls.base.programs import Procedure, Program
from showncalls.errors import InvalidFact, InvalidLog, InvalidNumber, InvalidOperation, InvalidProgram, TooMany, Unseen
from showncalls.know.watchers import Watcher, is_log_of
from tests import oracle
from tests.helper import DEEP, HALF, HUGE, MIRROR, ODD, OUTER, Case
from tests.making import SAY, Maker, call, procedure, straight_log, with_lines, with_moves

MAIN = ("enter", "main")
LOOP = Program({"x": 2}, procedure("main", ("often", (SAY,))))
DOWN = Program({"x": 2}, procedure("main", call("p")), procedure("p", ("either", (call("p"),), ()), ("set", "x", ("x",), (1, 0))))
ONE = (MAIN, ("enter", "p"), ("say", "one"), ("leave", "p"), ("say", "end"), ("leave", "main"))
ZERO = (MAIN, ("enter", "p"), ("leave", "p"), ("say", "end"), ("leave", "main"))
NO_LINES = ODD + (("enter",), ("enter", "p", 1), ["enter", "p"], ("say", "w", 4), ("say", "w", True), ("hide", "x"), "enter p")
NO_FACTS = ODD + (((0,),), Fact({}), Fact({"n": 3}), Fact({"x": 2}, ((0,),)), Fact({"n": 2, "x": 2}), Fact)


def fact(*standings):
    """A fact over the shared cell of OUTER."""
    return Fact({"n": 2}, standings)


def state(watcher):
    return [watcher.log, watcher.knowing, watcher.can_stand.standings, watcher.lines(), len(watcher), str(watcher)]


class LogsOf(Case):
    def test_logs(self):
        for log in (ONE, ZERO):
            for many in range(1, len(log) + 1):
                self.assertIs(is_log_of(OUTER, log[:many]), True)

    def test_other_values(self):
        for value in ODD + ((), [MAIN], MAIN, (("enter", "p"),), (MAIN, ("say", "end")), (MAIN, ("leave", "main")), ONE[:2] + ONE[4:],
                            ONE[:3] + ONE[2:], ZERO + (("leave", "main"),), (MAIN, ("enter", "q")), (MAIN, ("enter", "main")),
                            (MAIN, ("say", "w", True)), ONE[:2] + (("say", "one", 1),), ("enter main",), (MAIN, None)):
            self.assertIs(is_log_of(OUTER, value), False, value)

    def test_true_is_no_number(self):
        log = (MAIN, ("enter", "p"), ("say", "at", 1))
        self.same([is_log_of(MIRROR, log), is_log_of(MIRROR, log[:2] + (("say", "at", True),))], [True, False])

    def test_no_programs(self):
        for value in ODD:
            if not isinstance(value, Program):
                self.fails(InvalidProgram, is_log_of, value, ONE)
                self.fails(InvalidProgram, is_log_of, value, None)

    def test_long_logs(self):
        for many in (1999, 2000, 2001, 20000):
            log = (MAIN,) + (("say", "w"),) * (many - 1)
            self.same([is_log_of(LOOP, log), is_log_of(LOOP, log + (("leave", "main"),))], [True, True])
            self.same(is_log_of(LOOP, log[:-1] + (("say", "w", 1),)), False)
            deep = (MAIN,) + (("enter", "p"),) * many
            self.assertIs(is_log_of(DOWN, deep), True)
            self.assertIs(is_log_of(DOWN, deep + (("leave", "p"),) * many + (("leave", "main"),)), True)
            self.assertIs(is_log_of(DOWN, deep + (("leave", "p"),) * (many - 1) + (("enter", "p"),)), False)


class Watching(Case):
    def test_line_by_line(self):
        watcher = Watcher(OUTER)
        self.assertTrue(watcher.program == OUTER)
        for at, line in enumerate(ONE):
            if at > 0:
                self.assertIsNone((watcher.see if at % 2 else watcher)(line))
            self.same([watcher.log, len(watcher), str(watcher)], [ONE[:at + 1], at + 1, f"watcher behind {at + 1} lines"])
            self.assertTrue(watcher == Watcher.along(OUTER, ONE[:at + 1]))

    def test_lines(self):
        self.same([Watcher.along(OUTER, ONE[:many]).lines() for many in range(1, 7)],
                  [(("enter", "p"),), (("leave", "p"), ("say", "one")), (("leave", "p"),), (("say", "end"),), (("leave", "main"),), ()])
        self.same(Watcher(HALF).lines(), (("say", "a", 0), ("say", "a", 1)))

    def test_main_left(self):
        watcher = Watcher.along(OUTER, ONE)
        self.same([watcher.knowing, watcher.lines(), watcher.can_stand.standings], [None, (), ((1,),)])
        for line in ONE + (("say", "one"),):
            self.same(self.fails(Unseen, watcher.see, line).line, line)

    def test_lines_that_are_none(self):
        watcher = Watcher.along(OUTER, ONE[:2])
        before = state(watcher)
        for line in NO_LINES:
            self.fails(InvalidLog, watcher.see, line)
            self.fails(InvalidLog, watcher, line)
        for line in (("say", "one", 1), ("say", "end"), ("leave", "main"), ("enter", "p"), ("enter", "zzz"), ("ask", "w", 0)):
            for see in (watcher.see, watcher):
                self.same(self.fails(Unseen, see, line).line, line)
        self.same(state(watcher), before)

    def test_along(self):
        for log in ((("enter", "p"),), (("enter", "p"), ("leave", "p")), (("enter", "zz"), ("say", "w"))):
            self.same(self.fails(Unseen, Watcher.along, OUTER, log).line, log[0])
        self.same(self.fails(Unseen, Watcher.along, OUTER, ONE[:3] + (("say", "two"), ("say", "three"))).line, ("say", "two"))
        self.same(self.fails(Unseen, Watcher.along, OUTER, (MAIN, ("leave", "main"))).line, ("leave", "main"))
        for log in ODD + ((), [MAIN], (MAIN, None), (MAIN, ("leave", "p")), ONE + ONE[-1:], "enter main", (("say", "w"), MAIN)):
            self.fails(InvalidLog, Watcher.along, OUTER, log)
        for value in ODD:
            if not isinstance(value, Program):
                self.fails(InvalidProgram, Watcher, value)
                self.fails(InvalidProgram, Watcher.along, value, ONE)
                self.fails(InvalidProgram, Watcher.along, value, None)

    def test_long_logs(self):
        log = (MAIN,) + (("say", "w"),) * 3000
        watcher = Watcher.along(LOOP, log)
        self.assertEqual([len(watcher), watcher.log, watcher.can_stand.standings], [3001, log, ((0,), (1,))])
        deep = Watcher.along(DOWN, (MAIN,) + (("enter", "p"),) * 2500 + (("leave", "p"),) * 2000)
        self.same([deep.lines(), deep.can_stand.standings], [(("leave", "p"),), ((0,), (1,))])
        for more in (0, 1, 2):
            program = with_lines(more)
            log = straight_log(program)
            self.assertEqual(len(log), 2001 + more)
            for many, due in ((len(log) - 2, False), (len(log) - 1, True), (len(log), True)):
                watcher = Watcher.along(program, log[:many])
                self.assertIs(watcher.knows(Fact({"x": 2}, ((1,),))), due)


class Knowing(Case):
    def test_knows_and_answers(self):
        for log, known in ((ONE, 1), (ONE[:5], 1), (ZERO, 0), (ZERO[:4], 0)):
            watcher = Watcher.along(OUTER, log)
            for value, due in ((fact((known,)), "surely"), (fact((1 - known,)), "never"), (fact(), "never"),
                               (fact((0,), (1,)), "surely")):
                self.same([watcher.answer(value), watcher.knows(value)], [due, due == "surely"])
        for many in range(1, 5):
            watcher = Watcher.along(OUTER, ONE[:many])
            for value, due in ((fact((0,)), "open"), (fact((1,)), "open"), (fact(), "never"), (fact((0,), (1,)), "surely")):
                self.same([watcher.answer(value), watcher.knows(value)], [due, due == "surely"])

    def test_a_cell_that_nothing_looks_at(self):
        program = Program({"x": 2}, procedure("main", ("hide", "x"), SAY))
        self.same(Watcher.along(program, (MAIN, ("say", "w"), ("leave", "main"))).can_stand.standings, ((0,), (1,)))

    def test_no_facts(self):
        watcher = Watcher(OUTER)
        for value in NO_FACTS:
            self.fails(InvalidFact, watcher.knows, value)
            self.fails(InvalidFact, watcher.answer, value)
        self.assertTrue(watcher == Watcher(OUTER))

    def test_deep_calls(self):
        watcher = Watcher.along(DEEP, (MAIN,) + (("enter", "p"),) * 4)
        self.same(watcher.can_stand.standings, ((3, 0), (3, 1)))
        watcher(("say", "at", 1))
        for _ in range(4):
            watcher(("leave", "p"))
            self.same(watcher.can_stand.standings, ((3, 1),))
        self.same(watcher.lines(), (("leave", "main"),))

    def test_calls_turn_what_is_told(self):
        for depth in range(1, 7):
            log = (MAIN,) + (("enter", "p"),) * depth + (("say", "at", 0),)
            for left in range(1, depth + 1):
                watcher = Watcher.along(MIRROR, log + (("leave", "p"),) * left)
                self.same(watcher.can_stand.standings, (((left - 1) % 2,),))

    def test_calls_that_are_never_left(self):
        lost = Program({"x": 2}, procedure("main", ("if", "x", 1, (call("q"),), ()), SAY), procedure("q", call("q"), quiet=True))
        watcher = Watcher(lost)
        self.same([watcher.can_stand.standings, watcher.lines()], [((0,), (1,)), (("say", "w"),)])
        watcher(("say", "w"))
        self.same(watcher.can_stand.standings, ((0,),))
        endless = Program({"x": 2}, procedure("main", call("q"), SAY), procedure("q", call("q"), quiet=True))
        self.same([Watcher(endless).lines(), Watcher(endless).can_stand.standings], [(), ((0,), (1,))])


class Runs(Case):
    def test_runs(self):
        for log in [ONE[:many] for many in range(1, 7)] + [ZERO[:many] for many in range(1, 6)]:
            watcher = Watcher.along(OUTER, log)
            for standing in watcher.can_stand.standings:
                run = watcher.run(standing)
                self.same([run.log, run.standing, run.is_shown], [log, standing, True])
                self.assertTrue(run.program == OUTER)
            self.assertEqual(watcher.log, log)

    def test_standings_that_cannot_stand(self):
        watcher = Watcher.along(OUTER, ONE)
        for value in ODD + ((0,), (2,), (), (True,), [1], 1, (1, 1), ((1,),), fact((1,))):
            if repr(value) != "(1,)":
                self.fails(InvalidOperation, watcher.run, value)
        self.assertEqual(watcher.log, ONE)

    def test_a_thousand_moves(self):
        for more in (-1, 0):
            watcher = Watcher.along(with_moves(more), (MAIN, ("say", "w")))
            for standing in ((0,), (1,)):
                run = watcher.run(standing)
                self.same([len(run), run.log, run.standing], [1000 + more, watcher.log, standing])
        watcher = Watcher.along(with_moves(1), (MAIN, ("say", "w")))
        self.assertEqual(self.fails(TooMany, watcher.run, (0,)).limit, 1000)
        self.fails(InvalidOperation, watcher.run, (2,))

    def test_a_thousand_moves_that_are_lines(self):
        for many in (500, 501, 999, 1000, 1001, 1500):
            watcher = Watcher.along(LOOP, (MAIN,) + (("say", "w"),) * many)
            if many <= 500:
                self.assertEqual(len(watcher.run((1,))), 2 * many)
            else:
                self.assertEqual(self.fails(TooMany, watcher.run, (1,)).limit, 1000)
        says = procedure("main", call("p"), call("p"))
        plain = Program({}, says, procedure("p", *[call("q")] * 18), procedure("q", *[SAY] * 24))
        log = tuple([MAIN] + ([("enter", "p")] + ([("enter", "q")] + [("say", "w")] * 24 + [("leave", "q")]) * 18 + [("leave", "p")]) * 2)
        self.assertEqual(len(Watcher.along(plain, log).run(())), len(log) - 1)
        deep = (MAIN,) + (("enter", "p"),) * 501
        self.assertEqual(len(Watcher.along(DOWN, deep[:-1]).run((0,))), 999)
        self.assertEqual(self.fails(TooMany, Watcher.along(DOWN, deep).run, (0,)).limit, 1000)

    def test_a_thousand_moves_that_are_lines_of_many_calls(self):
        # A call of p has 26 lines, one of q has 24 * 26 + 2, one of r has 14.
        for more in (-1, 0, 1):
            program = Program(
                {"x": 2}, procedure("main", call("q"), *[call("p")] * 12, *[call("r")] * 4, *[SAY] * (6 + more)),
                procedure("p", *[SAY] * 24), procedure("q", *[call("p")] * 24), procedure("r", *[SAY] * 12),
            )
            log = straight_log(program)[:-1]
            self.assertEqual(len(log), 1001 + more)
            watcher = Watcher.along(program, log)
            if more <= 0:
                self.same([len(watcher.run((1,))), watcher.run((1,)).log], [1000 + more, log])
            else:
                self.assertEqual(self.fails(TooMany, watcher.run, (1,)).limit, 1000)

    def test_a_thousand_moves_in_calls_that_go_on(self):
        turn = ("set", "x", ("x",), (1, 0))
        for more in (-1, 0, 1):
            # Silently, a call of r has 26 moves, one of q has 24 * 26 + 2, one of t has 8. So p is entered by move 871.
            program = with_moves(0).with_procedure(procedure("p", *[call("r")] * 4, *[call("t")] * 2, *[turn] * (8 + more), SAY))
            body = (call("q"), *[call("r")] * 9, call("t"), turn, turn, call("p"))
            watcher = Watcher.along(program.with_procedure(procedure("main", *body)), (MAIN, ("enter", "p"), ("say", "w")))
            if more <= 0:
                self.assertEqual(len(watcher.run((1,))), 1000 + more)
            else:
                self.assertEqual(self.fails(TooMany, watcher.run, (1,)).limit, 1000)

    def test_a_thousand_moves_with_the_leave_of_main(self):
        log = (MAIN, ("say", "w"), ("leave", "main"))
        self.assertEqual(len(Watcher.along(with_moves(-1), log).run((0,))), 1000)
        self.assertEqual(self.fails(TooMany, Watcher.along(with_moves(0), log).run, (0,)).limit, 1000)

    def test_two_ways(self):
        one = ("set", "x", (), (1,))
        for first, second in ((0, 3), (3, 0), (2, 1), (1, 5), (4, 4)):
            def ways(cell):
                return ("either", (one,) * first + (("set", cell, (), (0,)),), (one,) * second + (("set", cell, (), (1,)),))

            own, turned = (("a", 2), ("b", 2)), min(first, second) + 2
            said = Program({"x": 2}, procedure("main", one, ways("a"), SAY, own=own))
            left = Program({"x": 2}, procedure("main", one, call("p")), procedure("p", ways("b"), own=own))
            going = Program({"x": 2}, procedure("main", one, ways("a"), call("p", "a"), own=own), procedure("p", SAY, own=own))
            for program, lines, due in ((said, [("say", "w")], turned + 2), (left, [("enter", "p"), ("leave", "p")], turned + 3),
                                        (going, [("enter", "p"), ("say", "w")], turned + 3)):
                self.assertEqual(len(Watcher.along(program, (MAIN, *lines)).run((1,))), due)

    def test_ways_that_meet_again(self):
        one = ("set", "x", (), (1,))
        for firsts in ((0, 1), (1, 0), (2, 0)):
            for seconds in ((0, 4), (4, 0), (1, 1)):
                ways = [(one,) * many + (("set", "a", (), (number,)),) for number, many in enumerate(firsts)]
                program = Program({"x": 2}, procedure(
                    "main", one, ("either", *ways), SAY, ("if", "a", 0, (one,) * seconds[0], (one,) * seconds[1]),
                    ("set", "a", (), (0,)), SAY, own=(("a", 2),)))
                watcher = Watcher.along(program, (MAIN, ("say", "w"), ("say", "w")))
                self.assertEqual(len(watcher.run((1,))), 7 + min(map(sum, zip(firsts, seconds))))

    def test_a_quiet_call_or_not(self):
        one = ("set", "x", (), (1,))
        for many in range(4):
            for steps in range(10):
                program = Program({"x": 2}, procedure("main", ("either", (call("q"),), (one,) * steps), SAY),
                                  procedure("q", *[one] * many, ("hide", "x"), quiet=True))
                run = Watcher.along(program, (MAIN, ("say", "w"))).run((1,))
                self.assertEqual(len(run), 2 + min(many + 3, steps))

    def test_no_run_is_shorter(self):
        # Else there might be one with 1000 moves where none is told.
        compared = 0
        for seed, quiet in ((61, 0.3), (62, 0.7)):
            maker = Maker(seed, quiet=quiet, statements=7)
            for _ in range(80):
                program = maker.program()
                logs = sorted(oracle.all_logs(program, 4, 3))
                for log in maker.chance.sample(logs, min(3, len(logs))):
                    watcher = Watcher.along(program, log)
                    due = oracle.least_moves(program, log, 25, 5)
                    for standing in watcher.can_stand.standings:
                        many = len(watcher.run(standing))
                        self.assertEqual(min(many, 26), due.get(standing, 26))
                        compared += many > 4
        self.assertGreater(compared, 100)

    def test_short_ways_are_found(self):
        # One way has more than 1000 moves, the other one has not.
        for ways in (([call("q")] * 2, [("hide", "x")]), ([("hide", "x")], [call("q")] * 2)):
            program = with_moves(0).with_procedure(procedure("main", ("either", *map(tuple, ways)), SAY))
            run = Watcher.along(program, (MAIN, ("say", "w"))).run((1,))
            self.same([run.log, run.standing], [(MAIN, ("say", "w")), (1,)])


class Taking(Case):
    def test_back(self):
        watcher = Watcher.along(OUTER, ONE)
        for many in (0, 1, 2, 0, 2):
            before = len(watcher)
            self.same(watcher.back(many=many), before - many)
            self.assertTrue(watcher == Watcher.along(OUTER, ONE[:before - many]))
        self.same([watcher.log, watcher.back(many=0)], [(MAIN,), 1])
        watcher = Watcher.along(OUTER, ONE[:3])
        self.same([watcher.back(), watcher(("leave", "p")), watcher(("say", "end")), watcher.can_stand.standings],
                  [2, None, None, ((0,),)])

    def test_back_too_far(self):
        watcher = Watcher.along(OUTER, ONE[:3])
        for many in ODD + (3, 4, -1, True, False, "1", [1], (1,), HUGE):
            if repr(many) not in ("0", "1", "2"):
                self.same(self.fails(InvalidNumber, watcher.back, many=many).value, many)
        self.same(self.fails(InvalidNumber, Watcher(OUTER).back).value, 1)
        with self.assertRaises(TypeError):
            watcher.back(1)
        self.assertTrue(watcher == Watcher.along(OUTER, ONE[:3]))

    def test_trial(self):
        watcher = Watcher.along(OUTER, ONE[:2])
        before = state(watcher)
        with watcher.trial() as same:
            self.assertIs(same, watcher)
            same(("say", "one"))
            with watcher.trial() as inner:
                inner.back(many=2)
                self.assertEqual(len(watcher), 1)
            self.assertEqual(len(watcher), 3)
            watcher(("leave", "p"))
        self.same(state(watcher), before)
        with watcher.trial():
            watcher.back()
        self.same(state(watcher), before)

    def test_trial_with_an_error(self):
        watcher = Watcher.along(OUTER, ONE[:3])
        before = state(watcher)
        for error, line in ((Unseen, ("say", "two")), (InvalidLog, None)):
            with self.assertRaises(error):
                with watcher.trial() as same:
                    same(("leave", "p"))
                    same(line)
            self.same(state(watcher), before)
        with self.assertRaises(ZeroDivisionError):
            with watcher.trial():
                watcher.back(many=2)
                1 // 0
        self.same(state(watcher), before)

    def test_one_trial_twice(self):
        watcher = Watcher(OUTER)
        trial = watcher.trial()
        for line in ONE[1:3]:
            with trial:
                watcher(line)
                watcher.back()
            with trial:
                watcher(line)
            watcher(line)
        self.assertEqual(watcher.log, ONE[:3])

    def test_during(self):
        watcher = Watcher.along(OUTER, ONE[:2])
        before = state(watcher)

        def go_on(same):
            self.assertIs(same, watcher)
            same(("say", "one"))
            return len(same)

        self.same([watcher.during(go_on), watcher.during(len), watcher.during(lambda same: same.back())], [3, 2, 1])
        self.same(state(watcher), before)
        with self.assertRaises(Unseen):
            watcher.during(lambda same: [same(("say", "one")), same(("say", "one"))])
        self.same(state(watcher), before)

    def test_twin(self):
        watcher = Watcher.along(OUTER, ONE[:2])
        twin = watcher.twin()
        self.assertTrue(twin == watcher)
        twin(("say", "one"))
        self.same([len(watcher), len(twin)], [2, 3])
        watcher.back()
        self.same([len(watcher), len(twin), twin.can_stand.standings], [1, 3, ((0,), (1,))])
        watcher(("enter", "p"))
        watcher(("leave", "p"))
        twin(("leave", "p"))
        self.same([watcher.run((1,)).log, twin.run((1,)).log], [ZERO[:3], ONE[:4]])

    def test_copies(self):
        watcher = Watcher.along(OUTER, ONE[:2])
        before = state(watcher)
        watcher.can_stand.cells.clear()
        self.same(state(watcher), before)
        for name in ("program", "log", "knowing", "can_stand"):
            with self.assertRaises(AttributeError):
                setattr(watcher, name, ())

    def test_equality(self):
        watcher = Watcher.along(OUTER, ONE[:2])
        self.same([watcher == Watcher.along(OUTER, ONE[:2]), watcher != Watcher.along(OUTER, ONE[:2])], [True, False])
        other = OUTER.with_procedure(Procedure("q", ()))
        for value in ODD + (Watcher(OUTER), Watcher.along(other, ONE[:2]), ONE[:2], OUTER):
            self.same([watcher == value, watcher != value], [False, True])

    def test_no_iteration(self):
        for what in (iter, list, tuple):
            with self.assertRaises(TypeError):
                what(Watcher(OUTER))


class AgainstTheOracle(Case):
    def compare(self, program, many):
        """Whether all that watchers tell at logs of so few lines is as the oracle tells it, if it knows for sure."""
        logs = oracle.sure_logs(program, many)
        if logs is None:
            return False
        for log, pairs in logs.items():
            watcher = Watcher.along(program, log)
            self.assertIs(is_log_of(program, log), True)
            self.same(watcher.knowing, oracle.knowing(program, pairs))
            self.same(watcher.can_stand.standings, oracle.standings(pairs))
            due = {one[-1] for one in logs if len(one) == len(log) + 1 and one[:-1] == log}
            if len(log) < many:
                self.same(watcher.lines(), tuple(sorted(due)))
                for line in {one[-1] for one in logs} - due:
                    self.assertIs(is_log_of(program, log + (line,)), False)
                    self.same(self.fails(Unseen, watcher, line).line, line)
            for standing in watcher.can_stand.standings:
                run = watcher.run(standing)
                self.same([run.log, run.standing, run.is_shown], [log, standing, True])
        return True

    def test_programs_of_many_kinds(self):
        for seed, quiet, statements, many in ((21, 0.2, 5, 5), (22, 0.6, 6, 4), (23, 0.9, 8, 4), (24, 0, 4, 5)):
            maker = Maker(seed, quiet=quiet, statements=statements)
            self.assertGreater(sum(self.compare(maker.program(), many) for _ in range(60)), 50)

    def test_the_documents_programs(self):
        counting = ("if", "c", 3, (SAY,), (("set", "c", ("c",), (1, 2, 3, 0)), call("p")))
        counted = DEEP.with_procedure(procedure("p", counting)).without_shared("x")
        for program, many in ((MIRROR, 7), (OUTER, 6), (HALF, 4), (DOWN, 8), (LOOP, 5), (counted, 7)):
            self.assertTrue(self.compare(program, many))
