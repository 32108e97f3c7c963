"""[0.19], [0.20], [0.25], [12.1]: settled facts, their papers and classes."""

from showncalls.base.facts import Fact
from showncalls.base.programs import Program
from showncalls.errors import InvalidFact, InvalidProgram, TooMany
from showncalls.give.ends import is_settled, is_settled_paper, settled_classes, settled_paper
from showncalls.give.left import Left
from showncalls.know.tables import Table
from showncalls.know.watchers import Watcher
from tests import oracle
from tests.growing import bent, grown
from tests.helper import DEEP, HALF, MIRROR, ODD, OUTER, Case
from tests.making import HUGE_LOGS, SAY, Maker, call, facts_of, procedure, straight_log, with_knowings, with_lines

MAIN, LEFT = ("enter", "main"), ("leave", "main")
ONE = Fact.where({"x": 2}, {"x": 1})
NO_FACTS = ODD + (((0,),), Fact({}), Fact({"n": 3}), Fact({"x": 2}, ((0,),)), Fact({"n": 2, "x": 2}))
ENDLESS = Program({"x": 2}, procedure("main", SAY, call("p")), procedure("p", SAY, call("p")))
# Whether x is 2 is told at the end, and nothing more.
PARTLY = Program({"x": 3}, procedure("main", ("if", "x", 2, (("say", "two", None),), ())))
# At no end log can x be 0.
NEVER_ZERO = Program({"x": 3}, procedure("main", SAY, ("if", "x", 0, (("set", "x", (), (1,)),), ())))


def told(facts):
    return [fact.standings for fact in facts]


class Settled(Case):
    def test_the_documents_programs(self):
        self.same([is_settled(program, Fact.where(program.shared, {cell: 1}))
                   for program, cell in ((MIRROR, "x"), (DEEP, "x"), (OUTER, "n"), (HALF, "x"), (HALF, "k"))], [True] * 5)
        self.same(told(settled_classes(MIRROR)), [((0,),), ((1,),)])
        self.same(told(settled_classes(DEEP)), [((number, x),) for number in range(4) for x in range(2)])

    def test_what_is_told_in_part(self):
        self.same(told(settled_classes(PARTLY)), [((0,), (1,)), ((2,),)])
        self.same([is_settled(PARTLY, Fact.where({"x": 3}, {"x": number})) for number in range(3)], [False, False, True])
        self.same(settled_paper(PARTLY, Fact.where({"x": 3}, {"x": 1})), ("open", (MAIN, LEFT)))
        self.same(settled_paper(PARTLY, Fact.where({"x": 3}, {"x": 2})), ("settled", Table(PARTLY).as_dict()))

    def test_no_standings_and_all(self):
        for program in (MIRROR, DEEP, OUTER, HALF, PARTLY, ENDLESS, NEVER_ZERO, Program({}, procedure("main"))):
            for fact in (Fact(program.shared), Fact.every(program.shared)):
                self.assertIs(is_settled(program, fact), True)
                self.same(settled_paper(program, fact), ("settled", Table(program).as_dict()))
                self.assertIs(is_settled_paper(program, fact, ("settled", Table(program).as_dict())), True)

    def test_a_program_that_never_ends(self):
        for fact in facts_of(ENDLESS):
            self.assertIs(is_settled(ENDLESS, fact), True)
            self.assertIs(is_settled_paper(ENDLESS, fact, settled_paper(ENDLESS, fact)), True)
        self.same(told(settled_classes(ENDLESS)), [((0,),), ((1,),)])

    def test_a_standing_at_no_end_log(self):
        self.same(told(settled_classes(NEVER_ZERO)), [((0,),), ((1,), (2,))])
        self.same([is_settled(NEVER_ZERO, Fact.where({"x": 3}, {"x": number})) for number in range(3)], [True, False, False])

    def test_classes_that_meet_in_a_third_one(self):
        # At one end x is 0 or 1, at another one 1 or 2; so all three are in one class.
        program = Program({"x": 4}, procedure("main", ("either", (
            ("either", (("set", "x", (), (0,)),), (("set", "x", (), (1,)),)), ("say", "a", None)), (
            ("either", (("set", "x", (), (1,)),), (("set", "x", (), (2,)),)), ("say", "b", None)))))
        self.same(told(settled_classes(program)), [((0,), (1,), (2,)), ((3,),)])

    def test_against_all_logs(self):
        many = {"settled": 0, "open": 0}
        for seed in range(70):
            maker = Maker(seed + 1200, statements=6, shared=({"x": 2}, {"x": 2, "y": 2}, {"x": 3}))
            program = maker.program()
            found = oracle.sure_logs(program, 5)
            ended = {log: oracle.standings(found[log]) for log in found if log[-1] == LEFT} if found else {}
            classes = settled_classes(program)
            self.same(sorted(row for fact in classes for row in fact.standings), list(Fact.every(program.shared).standings))
            self.assertEqual(told(classes), sorted(told(classes)))
            for fact in maker.chance.sample(list(facts_of(program)), 4):
                kind, shown = settled_paper(program, fact)
                many[kind] += 1
                self.assertIs(is_settled_paper(program, fact, (kind, shown)), True)
                self.assertIs(is_settled(program, fact), kind == "settled")
                self.assertIs(is_settled(program, ~fact), kind == "settled")
                self.assertIs(is_settled(program, fact), all(part.is_within(fact) or part.is_within(~fact) for part in classes))
                opened = [len(log) for log in ended if len({row in fact for row in ended[log]}) == 2]
                if opened:
                    self.same([kind, len(shown)], ["open", min(opened)])
                elif kind == "open":
                    self.assertGreater(len(shown), 5)
        self.assertGreater(min(many.values()), 60)

    def test_the_same_as_left_sets_tell(self):
        for seed in range(60):
            program = Maker(seed + 1300, statements=6).program()
            end_sets = Left(program).end_sets
            for fact in settled_classes(program):
                self.assertTrue(all(end.is_within(fact) or end.is_within(~fact) for end in end_sets))
                # A class is least: it does not fall into two settled parts.
                for at in range(1, len(fact)):
                    part = Fact(program.shared, fact.standings[:at])
                    self.assertIs(is_settled(program, part), False)
                if len(fact) == 1 and not any(fact.is_within(end) for end in end_sets):
                    self.assertIs(is_settled(program, fact), True)


class Papers(Case):
    def test_end_logs_of_any_length(self):
        program = Program({"x": 2}, procedure("main", ("often", (SAY,))))
        for many in (0, 1, 2000, 3000):
            log = (MAIN,) + (("say", "w"),) * many
            self.same([is_settled_paper(program, ONE, ("open", log + (LEFT,))), is_settled_paper(program, ONE, ("open", log))], [True, False])
        self.same(settled_paper(program, ONE), ("open", (MAIN, LEFT)))

    def test_two_thousand_lines(self):
        for more in (-2, -1, 0):
            # There x is set ahead of the last line; here it is not.
            program = with_lines(more)
            main = procedure("main", *[part for part in program["main"].body if part[0] != "set"])
            program = program.with_procedure(main)
            log = straight_log(program)
            self.assertEqual(len(log), 2001 + more)
            self.assertIs(is_settled_paper(program, ONE, ("open", log)), True)
            self.assertIs(is_settled(program, ONE), False)
            if more < 0:
                self.assertEqual(settled_paper(program, ONE), ("open", log))
            else:
                self.assertEqual(self.fails(TooMany, settled_paper, program, ONE).limit, 2000)
        self.assertIs(is_settled(HUGE_LOGS, ONE), True)
        self.assertEqual(settled_paper(HUGE_LOGS, ONE)[0], "settled")

    def test_lines_and_knowings_less_or_more(self):
        for seed in range(50):
            maker = Maker(seed + 1400, statements=6, shared=({"x": 2}, {"x": 2, "y": 2}, {"x": 3}))
            program = maker.program()
            for fact in maker.chance.sample(list(facts_of(program)), 3):
                kind, shown = settled_paper(program, fact)
                if kind == "open":
                    for at in range(1, len(shown)):
                        self.judged(program, fact, shown[:at] + shown[at + 1:])
                        self.judged(program, fact, shown[:at])
                    self.assertIs(is_settled_paper(program, fact, ("open", shown + (LEFT,))), False)
                    self.assertIs(is_settled_paper(program, fact, ("settled", Table(program).as_dict())), False)
                    self.assertIs(is_settled_paper(program, fact, ("settled", shown)), False)
                else:
                    table = list(bent(shown))
                    for other in maker.chance.sample(table, min(6, len(table))):
                        self.assertIs(is_settled_paper(program, fact, ("settled", other)), False)
                    self.assertIs(is_settled_paper(program, fact, ("open", shown)), False)

    def judged(self, program, fact, log):
        try:
            due = log[-1] == LEFT and Watcher.along(program, log).answer(fact) == "open"
        except (ValueError, LookupError):
            due = False
        self.assertIs(is_settled_paper(program, fact, ("open", log)), due)

    def test_greater_tables(self):
        # What is added can end with both, so the greater table does not show that x is settled; with the other ones it does.
        program = Program({"x": 2}, procedure("main", call("p"), ("say", "at", "x")), procedure("p", SAY))
        begins = program.begins("p")
        both = ("main", tuple((begin, (2, (number,), ())) for begin in program.begins("main") for number in (0, 1)))
        narrow = ("main", ((program.begins("main")[0], (1, (0,), ())),))
        main = ("main", program.begins("main"))
        for extra, due in (((("p", begins[:1]), ("p", ((begins[0], (1, (0,), ())),))), True), ((main, narrow), True),
                           ((main, both), False)):
            greater = grown(program, [extra])
            self.assertNotEqual(greater, Table(program).as_dict())
            self.assertIs(is_settled_paper(program, ONE, ("settled", greater)), due)
            self.assertIs(is_settled_paper(program, Fact.every({"x": 2}), ("settled", greater)), True)

    def test_another_programs_table(self):
        table = Table(PARTLY).as_dict()
        other = PARTLY.with_procedure(procedure("main", ("if", "x", 2, (("say", "two", None), SAY), ())))
        fact = Fact.where({"x": 3}, {"x": 2})
        self.same([is_settled_paper(PARTLY, fact, ("settled", table)), is_settled_paper(other, fact, ("settled", table))], [True, False])

    def test_other_values(self):
        table = Table(PARTLY).as_dict()
        log = (MAIN, LEFT)
        for value in ODD + ((), ("open",), ("open", log, log), ["open", log], ("open", list(log)), ("settled", log), ("Open", log), (None, log),
                            (("open",), log), (log, "open"), log, table, ("open", None), ("settled", None), ("settled", {}), ("settled", table),
                            ("open", table), ("open", ()), ("open", (LEFT,)), ("open", (MAIN,)), ("open", (MAIN, ("leave", "p"))), ("known", log),
                            ("never", table), ("open", log + (LEFT,)), ("open", (MAIN, ("say", "two"), LEFT)), ("open", (["enter", "main"], LEFT))):
            self.assertIs(is_settled_paper(PARTLY, Fact.where({"x": 3}, {"x": 1}), value), False, value)
        self.assertIs(is_settled_paper(PARTLY, Fact.where({"x": 3}, {"x": 1}), ("open", log)), True)
        # True is no number of a now, also if it is equal to one.
        wrong = Table(MIRROR).as_dict()
        self.assertIs(is_settled_paper(MIRROR, ONE, ("settled", wrong)), True)
        context = ("main", MIRROR.begins("main"))
        name, pairs = wrong[context][0]
        begin, (place, standing, own) = pairs[-1]
        for now in ((place, (True,), own), (False, standing, own), (place, list(standing), own)):
            wrong[context] = ((name, pairs[:-1] + ((begin, now),)),) + wrong[context][1:]
            self.assertIs(is_settled_paper(MIRROR, ONE, ("settled", wrong)), False)


class Wrong(Case):
    def test_errors(self):
        for value in ODD:
            if not isinstance(value, Program):
                for ask in (is_settled, settled_paper):
                    self.fails(InvalidProgram, ask, value, None)
                    self.fails(InvalidProgram, ask, value, ONE)
                self.fails(InvalidProgram, is_settled_paper, value, None, None)
                self.fails(InvalidProgram, settled_classes, value)
        for value in NO_FACTS:
            for program in (OUTER, with_knowings(1)):
                self.fails(InvalidFact, is_settled, program, value)
                self.fails(InvalidFact, settled_paper, program, value)
                self.fails(InvalidFact, is_settled_paper, program, value, ("open", (MAIN, LEFT)))

    def test_four_hundred(self):
        program = with_knowings(0)
        fact = Fact.where(program.shared, {"x": 1})
        self.same([is_settled(program, fact), settled_paper(program, fact)[0], len(settled_classes(program))], [True, "settled", 16])
        program = with_knowings(1)
        for value in (fact, Fact(program.shared), Fact.every(program.shared)):
            self.assertEqual(self.fails(TooMany, is_settled, program, value).limit, 400)
            self.assertEqual(self.fails(TooMany, settled_paper, program, value).limit, 400)
        self.assertEqual(self.fails(TooMany, settled_classes, program).limit, 400)
        table = grown(program)
        self.same([is_settled_paper(program, fact, ("settled", table)), is_settled_paper(program, fact, ("open", (MAIN,)))], [True, False])

    def test_what_is_returned_is_a_copy(self):
        paper = settled_paper(MIRROR, ONE)
        paper[1].clear()
        self.same(settled_paper(MIRROR, ONE), ("settled", Table(MIRROR).as_dict()))
