"""[0.14], [0.15], [0.25], and the section of counts of logs."""

from itertools import islice

from showncalls.base.facts import Fact
from showncalls.base.programs import Program
from showncalls.base.words import is_log
from showncalls.errors import InvalidFact, InvalidNumber, InvalidProgram, TooMany
from showncalls.give.counts import count_known, count_logs, logs
from showncalls.know.lengths import Lengths
from showncalls.know.minds import mind_of
from showncalls.know.positions import first_position, next_position
from showncalls.know.watchers import Watcher, is_log_of
from tests import oracle
from tests.helper import DEEP, HALF, HUGE, MIRROR, ODD, OUTER, Case
from tests.making import SAY, Maker, call, facts_of, procedure, straight_log, with_knowings

MAIN, LEFT = ("enter", "main"), ("leave", "main")
ONE = Fact.where({"x": 2}, {"x": 1})
NO_FACTS = ODD + (((0,),), Fact({}), Fact({"n": 3}), Fact({"x": 2}, ((0,),)), Fact({"n": 2, "x": 2}))
NO_NUMBERS = tuple(value for value in ODD if isinstance(value, bool) or not isinstance(value, int) or not 0 <= value <= 40) + (
    -1, 41, 42, 100, HUGE, (1,), [1], "1")
ROUNDS = Program({"x": 2}, procedure("main", ("often", (("ask", "w", "x"),))))
# Each of its logs can be read as brackets: p calls itself as often as it likes.
BRACKETS = Program({}, procedure("main", call("p")), procedure("p", ("often", (call("p"),))))


def numbers_of(program, most):
    return [count_logs(program, many) for many in range(most + 1)]


class Counts(Case):
    def test_the_documents_programs(self):
        self.same(numbers_of(MIRROR, 9), [0, 1, 1, 3, 5] + [count_logs(MIRROR, many) for many in range(5, 10)])
        self.same(numbers_of(OUTER, 7), [0, 1, 1, 2, 2, 2, 1, 0])
        self.same(numbers_of(HALF, 5), [0, 1, 2, 4, 4, 0])
        self.same([count_known(OUTER, Fact.where({"n": 2}, {"n": 1}), many) for many in range(7)], [0, 0, 0, 0, 0, 1, 1])
        self.same([count_known(HALF, Fact.where(HALF.shared, {"x": 1}), many) for many in range(6)], [0, 0, 0, 2, 2, 0])

    def test_no_lines_and_one(self):
        for program in (MIRROR, DEEP, OUTER, HALF, ROUNDS, BRACKETS, Program({}, procedure("main"))):
            every, none = Fact.every(program.shared), Fact(program.shared)
            self.same([count_logs(program, 0), count_known(program, every, 0), list(logs(program, 0))], [0, 0, []])
            self.same([count_logs(program, 1), count_known(program, every, 1), count_known(program, none, 1), list(logs(program, 1))],
                      [1, 1, 0, [(MAIN,)]])

    def test_rounds(self):
        # Each line but the last one is one of two, or the last one leaves main.
        for many in range(2, 41):
            self.same(count_logs(ROUNDS, many), 2 ** (many - 1) + 2 ** (many - 2))
            self.same(count_known(ROUNDS, ONE, many), (3 * 2 ** (many - 1)) // 4 if many > 2 else 1)
        self.same(sum(1 for log in logs(ROUNDS, 10)), 2 ** 9 + 2 ** 8)
        # Four numbers, forty lines: more than a machine number holds.
        four = Program({"x": 4, "y": 4}, procedure("main", ("often", (("ask", "w", "x"), ("ask", "w", "y")))))
        self.same([count_logs(four, 40), count_logs(four, 39)], [4 ** 39 + 4 ** 38, 4 ** 38])

    def test_brackets(self):
        # Logs are words of brackets with the first one open all the while, or closed as the very last one.
        def prefixes(many):
            found = {1: 1}
            for _ in range(many):
                behind = {}
                for depth, ways in found.items():
                    behind[depth + 1] = behind.get(depth + 1, 0) + ways
                    if depth > 1:
                        behind[depth - 1] = behind.get(depth - 1, 0) + ways
                found = behind
            return found

        for many in range(3, 41):
            # Ahead of them stand the enter lines of main and of p; behind the leave of p comes that of main alone.
            still = prefixes(many - 2)
            left = prefixes(many - 3).get(1, 0)
            ended = prefixes(many - 4).get(1, 0) if many > 3 else 0
            self.same(count_logs(BRACKETS, many), sum(still.values()) + left + ended)

    def test_against_all_logs(self):
        known = 0
        for seed in range(130):
            maker = Maker(seed + 1500, statements=6)
            program = maker.program()
            found = oracle.sure_logs(program, 5)
            facts = maker.chance.sample(list(facts_of(program)), 2) if program.shared else [Fact({}, ((),))]
            for many in range(6 if found is not None else 0):
                due = sorted(log for log in found if len(log) == many)
                self.same(list(logs(program, many)), due)
                self.same(count_logs(program, many), len(due))
                for fact in facts:
                    sure = [log for log in due if all(row in fact for row in oracle.standings(found[log]))]
                    self.same(count_known(program, fact, many), len(sure))
                    known += len(sure) if len(sure) < len(due) else 0
        self.assertGreater(known, 100)

    def test_counts_are_those_of_the_logs(self):
        for seed in range(60):
            maker = Maker(seed + 1600, statements=7, most=4, shared=({"x": 2}, {"x": 2, "y": 2}))
            program = maker.program()
            fact = maker.chance.choice(list(facts_of(program)))
            for many in (7, 9):
                found = list(islice(logs(program, many), 400))
                self.assertTrue(all(is_log_of(program, log) and len(log) == many for log in found))
                self.assertEqual(found, sorted(set(found)))
                if len(found) < 400:
                    self.same(count_logs(program, many), len(found))
                    self.same(count_known(program, fact, many), sum(Watcher.along(program, log).knows(fact) for log in found))
                else:
                    self.assertGreaterEqual(count_logs(program, many), 400)

    def test_main_left(self):
        for program in (OUTER, HALF):
            last = max(many for many in range(41) if count_logs(program, many))
            self.assertTrue(all(log[-1] == LEFT for log in logs(program, last)))
            self.same([count_logs(program, last + 1), list(logs(program, last + 1))], [0, []])
        program = Program({"x": 2}, procedure("main", ("set", "x", (), (1,))))
        self.same([count_known(program, ONE, many) for many in range(4)], [0, 0, 1, 0])

    def test_all_standings_and_none(self):
        for program in (MIRROR, DEEP, OUTER, HALF, ROUNDS):
            for many in range(8):
                self.same([count_known(program, Fact.every(program.shared), many), count_known(program, Fact(program.shared), many)],
                          [count_logs(program, many), 0])


class Logs(Case):
    def test_they_ascend(self):
        for many in range(8):
            for program in (MIRROR, DEEP, OUTER, HALF, ROUNDS, BRACKETS):
                found = list(logs(program, many))
                self.assertEqual(found, sorted(set(found)))
                self.assertTrue(all(is_log(log) and len(log) == many for log in found))
        self.same(list(logs(MIRROR, 3)), [
            (MAIN, ("enter", "p"), ("enter", "p")), (MAIN, ("enter", "p"), ("say", "at", 0)), (MAIN, ("enter", "p"), ("say", "at", 1))])

    def test_they_come_one_by_one(self):
        found = list(islice(logs(ROUNDS, 40), 3))
        self.same([log[-1] for log in found], [("ask", "w", 0), ("ask", "w", 1), LEFT])
        generator = logs(ROUNDS, 40)
        self.assertIs(iter(generator), generator)
        self.same([next(generator), next(generator)], found[:2])

    def test_ways_that_end_too_soon(self):
        # There are 4 ** 24 logs of 25 lines, but none of 27; and with many lines just one, behind many that end.
        asks = [("ask", "w", "x"), ("ask", "w", "y")] * 12
        program = Program({"x": 4, "y": 4}, procedure("main", *asks))
        self.same([list(logs(program, 27)), count_logs(program, 27), count_logs(program, 25), count_logs(program, 26)], [[], 0, 4 ** 24, 4 ** 24])
        program = Program({"x": 4, "y": 4}, procedure("main", ("either", tuple(asks[:20]), ()), call("p")), procedure("p", SAY, SAY, call("q")),
                          procedure("q", *[SAY] * 24))
        log = (MAIN,) + (("ask", "w", 3),) * 20 + (("enter", "p"),) + (("say", "w"),) * 2 + (("enter", "q"),) + (("say", "w"),) * 15
        self.same([len(log), list(islice(logs(program, 40), 2))[-1][:21]], [40, (MAIN,) + (("ask", "w", 0),) * 19 + (("ask", "w", 1),)])
        # Within calls of p there are many logs, of which the ones that wait too long cannot be left in time.
        program = Program({}, procedure("main", ("often", (call("p"),)), *[SAY] * 3), procedure("p", ("either", (call("p"),), (SAY,)), SAY))
        for many in (5, 8, 11):
            found = list(logs(program, many))
            self.same([len(found), found], [count_logs(program, many), sorted(set(found))])

    def test_only_beginnings_of_wanted_logs_are_gone_along(self):
        some = {True: 0, False: 0}
        for seed in range(120):
            program = Maker(seed + 7800, statements=5).program()
            found = oracle.sure_logs(program, 7) if count_logs(program, 7) < 300 else None
            for log in sorted(found or ())[:40]:
                mind = mind_of(program)
                lengths, position = Lengths(mind), first_position(mind)
                for line in log[1:]:
                    position = next_position(mind, position, line)
                for many in range(8 - len(log)):
                    due = any(len(other) == len(log) + many and other[:len(log)] == log for other in found)
                    self.assertIs(lengths.can_follow(position, many), due)
                    some[due] += 1
        self.assertGreater(min(some.values()), 500)

    def test_where_no_line_comes(self):
        program = Program({}, procedure("main", call("p"), SAY), procedure("p", SAY, call("z")), procedure("z", call("z"), quiet=True))
        log = (MAIN, ("enter", "p"), ("say", "w"))
        self.same([list(logs(program, many)) for many in (2, 3, 4, 5)], [[log[:2]], [log], [], []])
        mind = mind_of(program)
        position = first_position(mind)
        for line in log[1:]:
            position = next_position(mind, position, line)
        self.same([Lengths(mind).can_follow(position, many) for many in range(4)], [True, False, False, False])

    def test_programs_with_more_than_four_hundred_knowings(self):
        program = with_knowings(1)
        self.same(list(logs(program, 40)), [straight_log_until(program, 40)])
        self.same(len(list(logs(Program({"x": 4, "y": 4}, procedure("main", *[("ask", "w", cell) for cell in "xyxyxy"])), 5))), 256)

    def test_arguments_that_the_caller_keeps(self):
        first = list(logs(OUTER, 4))
        self.same([list(logs(OUTER, 4)), count_logs(OUTER, 4)], [first, len(first)])


def straight_log_until(program, many):
    """The beginning, so long, of the log of a program as `with_knowings` gives it."""
    calls = Program.of(program.shared, (procedure("main", *program["main"].body[:3]),) + program.procedures[1:])
    return straight_log(calls)[:many]


class Wrong(Case):
    def first(self, program, many):
        return next(logs(program, many), None)

    def test_errors(self):
        for value in ODD:
            if not isinstance(value, Program):
                self.fails(InvalidProgram, count_logs, value, None)
                self.fails(InvalidProgram, count_known, value, None, None)
                self.fails(InvalidProgram, self.first, value, None)
        for value in NO_FACTS:
            for program in (OUTER, with_knowings(1)):
                self.fails(InvalidFact, count_known, program, value, 3)
                self.fails(InvalidFact, count_known, program, value, None)
        fact = Fact(OUTER.shared)
        for value in NO_NUMBERS:
            for call, args in ((count_logs, (OUTER,)), (count_known, (OUTER, fact)), (self.first, (OUTER,)), (self.first, (with_knowings(1),)),
                               (count_logs, (with_knowings(1),))):
                self.same(self.fails(InvalidNumber, call, *args, value).value, value)

    def test_a_generator_raises_at_its_first_value(self):
        for args in ((None, 3), (OUTER, 41), (OUTER, -1), (OUTER, True), (OUTER, None)):
            generator = logs(*args)
            with self.assertRaises((InvalidProgram, InvalidNumber)):
                next(generator)

    def test_four_hundred(self):
        self.same([count_logs(with_knowings(0), many) for many in (0, 1, 40)], [0, 1, 1])
        program = with_knowings(1)
        for many in (0, 1, 2, 40):
            self.assertEqual(self.fails(TooMany, count_logs, program, many).limit, 400)
            self.assertEqual(self.fails(TooMany, count_known, program, Fact(program.shared), many).limit, 400)
        self.same([count_logs(OUTER, 40), count_logs(DEEP, 40)], [0, 0])
