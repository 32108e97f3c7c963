"""[0.6], [0.19], [0.25], [11.1]: papers of facts."""

from showncalls.base.facts import Fact
from showncalls.base.programs import Program
from showncalls.errors import InvalidFact, InvalidProgram, TooMany
from showncalls.give.left import Left
from showncalls.give.papers import fact_paper, is_fact_paper
from showncalls.know.knowings import possible
from showncalls.know.tables import Table
from showncalls.know.watchers import Watcher
from tests.growing import bent, grown
from tests.helper import DEEP, HALF, MIRROR, ODD, OUTER, Case
from tests.making import HUGE_LOGS, SAY, Maker, call, procedure, straight_log, with_knowings, with_lines

MAIN = ("enter", "main")
ONE = Fact.where({"x": 2}, {"x": 1})
# Over the shared cell of OUTER.
NO_FACTS = ODD + (((0,),), Fact({}), Fact({"n": 3}), Fact({"x": 2}, ((0,),)), Fact({"n": 2, "x": 2}))
SILENT = Program({"x": 2}, procedure("main", call("p"), ("hide", "x")), procedure("p", ("either", (SAY, call("p")), ())))
LOG = (MAIN, ("enter", "p"), ("say", "at", 1))


class Papers(Case):
    def test_logs(self):
        self.same(fact_paper(MIRROR, ONE), ("known", LOG))
        self.same(fact_paper(MIRROR, Fact.every({"x": 2})), ("known", (MAIN,)))
        kind, log = fact_paper(DEEP, Fact.where(DEEP.shared, {"x": 0}))
        self.same([kind, log], ["known", (MAIN,) + (("enter", "p"),) * 4 + (("say", "at", 0),)])

    def test_tables(self):
        for program, fact in ((MIRROR, Fact({"x": 2})), (SILENT, ONE), (SILENT, ~ONE), (HUGE_LOGS, ONE)):
            kind, table = fact_paper(program, fact)
            self.assertEqual(kind, "never")
            self.assertIs(is_fact_paper(program, fact, (kind, table)), True)
            table.clear()
            self.assertEqual(len(fact_paper(program, fact)[1]), len(Table(program).contexts))

    def test_each_paper_is_one_and_only_of_its_kind(self):
        many = {"known": 0, "never": 0}
        maker = Maker(51, statements=6)
        for _ in range(80):
            program = maker.program()
            every = Fact.every(program.shared).standings
            for _ in range(5):
                fact = Fact(program.shared, tuple(sorted(maker.chance.sample(every, maker.chance.randint(0, len(every))))))
                paper = fact_paper(program, fact)
                self.assertIs(is_fact_paper(program, fact, paper), True)
                many[paper[0]] += 1
                self.assertEqual(paper[0] == "known", fact in Left(program))
                if paper[0] == "known":
                    self.assertEqual(len(paper[1]), Left(program).length_for(fact))
                    self.assertIs(is_fact_paper(program, fact, ("never", Table(program).as_dict())), False)
        self.assertGreater(min(many.values()), 80)

    def test_lines_and_knowings_less_or_more(self):
        maker = Maker(52, statements=6)
        for _ in range(60):
            program = maker.program()
            for fact in Left(program).sets:
                log = fact_paper(program, fact)[1]
                for at in range(1, len(log)):
                    fewer = log[:at] + log[at + 1:]
                    self.judged(program, fact, fewer)
                    self.judged(program, fact, log[:at])
                for line in Watcher.along(program, log).lines():
                    self.judged(program, fact, log + (line,))
                self.judged(program, fact, log + (("say", "zzz"),))
            table = Table(program).as_dict()
            for other in maker.chance.sample(list(bent(table)), min(8, len(list(bent(table))))):
                self.assertIs(is_fact_paper(program, Fact(program.shared), ("never", other)), False)

    def judged(self, program, fact, log):
        try:
            due = Watcher.along(program, log).knows(fact)
        except (ValueError, LookupError):
            due = False
        self.assertIs(is_fact_paper(program, fact, ("known", log)), due, log)

    def test_greater_tables(self):
        context = ("p", SILENT.begins("p")[:1])
        narrow = ("p", ((context[1][0], (2, (0,), ())),))
        greater = grown(SILENT, [(context, narrow)])
        self.assertGreater(len(greater), len(Table(SILENT).contexts))
        # It is closed, but by what has been added the cell may be known.
        for fact, due in ((ONE, True), (~ONE, False), (Fact(SILENT.shared), True), (Fact.every(SILENT.shared), False)):
            self.assertIs(is_fact_paper(SILENT, fact, ("never", greater)), due)
        self.assertTrue(possible(SILENT, narrow).is_within(~ONE))
        wide = grown(SILENT, [(("p", SILENT.begins("p")), ("p", tuple((begin, (2, (number,), ())) for begin in SILENT.begins("p")
                                                                      for number in (0, 1))))])
        for fact in (ONE, ~ONE):
            self.assertIs(is_fact_paper(SILENT, fact, ("never", wide)), True)

    def test_logs_of_any_length(self):
        for depth in (2000, 2001, 3000):
            log = (MAIN,) + (("enter", "p"),) * depth + (("say", "at", 1),)
            for left in range(1, 4):
                longer = log + (("leave", "p"),) * left
                # The number turns behind a leave, ahead of the next line.
                self.assertIs(is_fact_paper(MIRROR, ONE, ("known", longer)), left % 2 == 1)
                self.assertIs(is_fact_paper(MIRROR, ~ONE, ("known", longer)), left % 2 == 0)
            left = log + (("leave", "p"),) * depth + (("leave", "main"),)
            self.same([is_fact_paper(MIRROR, fact, ("known", left)) for fact in (ONE, ~ONE)], [depth % 2 == 1, depth % 2 == 0])

    def test_two_thousand_lines(self):
        for more in (-1, 0):
            program = with_lines(more)
            self.same(fact_paper(program, ONE), ("known", straight_log(program)[:-1]))
        program = with_lines(1)
        self.assertEqual(self.fails(TooMany, fact_paper, program, ONE).limit, 2000)
        self.same([is_fact_paper(program, ONE, ("known", straight_log(program)[:many])) for many in (2000, 2001, 2002)],
                  [False, True, True])
        self.assertEqual(self.fails(TooMany, fact_paper, HUGE_LOGS, ~ONE).limit, 2000)

    def test_four_hundred(self):
        program = with_knowings(0)
        fact = Fact.where(program.shared, {"x": 0, "y": 3})
        paper = fact_paper(program, fact)
        self.same([paper[0], is_fact_paper(program, fact, paper)], ["known", True])
        none = Fact(program.shared)
        self.assertIs(is_fact_paper(program, none, fact_paper(program, none)), True)
        # Beyond that no paper is told, whatever the fact is; those that others make are judged all the same.
        program = with_knowings(1)
        for value in (fact, none, Fact.every(program.shared)):
            self.assertEqual(self.fails(TooMany, fact_paper, program, value).limit, 400)
        long = (MAIN,) + sum([(("enter", name),) + (("say", "w"),) * many + (("leave", name),)
                              for name, many in (("p", 24), ("q", 24), ("r", 6))], ())
        log = long + (("ask", "w", 0), ("ask", "w", 3))
        self.same([is_fact_paper(program, fact, ("known", log)), is_fact_paper(program, fact, ("known", log[:-1]))], [True, False])
        table = grown(program)
        self.assertEqual(sum(map(len, table.values())), 401)
        self.same([is_fact_paper(program, value, ("never", table)) for value in (none, fact)], [True, False])

    def test_another_programs_table(self):
        table = Table(SILENT).as_dict()
        other = SILENT.with_procedure(procedure("p", ("either", (SAY, SAY, call("p")), ())))
        self.same([is_fact_paper(SILENT, ONE, ("never", table)), is_fact_paper(other, ONE, ("never", table))], [True, False])

    def test_what_stands_in_no_fact_and_in_all(self):
        for program in (MIRROR, OUTER, HALF, DEEP, SILENT):
            none, every = Fact(program.shared), Fact.every(program.shared)
            self.same([fact_paper(program, none)[0], fact_paper(program, every)], ["never", ("known", (MAIN,))])
            self.same([is_fact_paper(program, every, ("known", (MAIN,))), is_fact_paper(program, none, ("known", (MAIN,)))], [True, False])

    def test_other_values(self):
        table = Table(MIRROR).as_dict()
        for value in ODD + ((), ("known",), ("never",), ("known", LOG, LOG), ["known", LOG], ("known", list(LOG)), ("never", LOG), ("known", table),
                            ("Known", LOG), (None, LOG), (("known",), LOG), (LOG, "known"), ("settled", table), LOG, table, ("known", None),
                            ("never", None), ("known", LOG[:-1]), ("known", LOG[:-1] + (("say", "at", True),)), ("known", LOG[1:]),
                            ("known", ()), ("never", {}), ("never", table), ("open", LOG), ("known", LOG[:2] + LOG), ("known", MIRROR)):
            self.assertIs(is_fact_paper(MIRROR, ONE, value), False, value)
        self.assertIs(is_fact_paper(MIRROR, ONE, ("known", LOG)), True)
        none = Fact({"x": 2})
        self.assertIs(is_fact_paper(MIRROR, none, ("never", table)), True)
        for kind in ("settled", "known", "Never", "", None, True, 0, ("never",), ["never"], none, MIRROR):
            self.assertIs(is_fact_paper(MIRROR, none, (kind, table)), False)
            self.assertIs(is_fact_paper(MIRROR, ONE, (kind, LOG)), kind == "known")

    def test_errors(self):
        for value in ODD:
            if not isinstance(value, Program):
                self.fails(InvalidProgram, fact_paper, value, ONE)
                self.fails(InvalidProgram, fact_paper, value, None)
                self.fails(InvalidProgram, is_fact_paper, value, None, None)
        for value in NO_FACTS:
            self.fails(InvalidFact, fact_paper, OUTER, value)
            self.fails(InvalidFact, fact_paper, with_knowings(1), value)
            self.fails(InvalidFact, is_fact_paper, OUTER, value, ("known", (MAIN,)))
            self.fails(InvalidFact, is_fact_paper, OUTER, value, None)
