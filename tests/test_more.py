"""[0.21], [0.23], [0.25], [15.1]: what gives away no more."""

from showncalls.base.facts import Fact
from showncalls.base.programs import Program
from showncalls.compare.more import gives_no_more, is_more_paper, more_paper
from showncalls.errors import InvalidOperation, InvalidProgram, TooMany
from showncalls.give.left import Left
from showncalls.know.knowings import ends, final, possible
from showncalls.know.tables import Table
from showncalls.know.watchers import Watcher
from tests import oracle
from tests.growing import bent, grown
from tests.helper import DEEP, HALF, MIRROR, ODD, OUTER, Case, Procedure
from tests.making import HUGE_LOGS, SAY, Maker, call, changed, facts_of, procedure, straight_log, with_knowings, with_lines, without_word

MAIN, LEFT = ("enter", "main"), ("leave", "main")
ONE = Fact.where({"x": 2}, {"x": 1})
STILL = MIRROR.with_procedure(Procedure("p", (("either", (("call", "p", None, None),), (("say", "at", "x"),)),)))
HUSH = HALF.with_procedure(Procedure("main", HALF["main"].body[:2], own=(("s", 2),)))
TELLS = Program({"x": 2}, procedure("main", SAY, ("say", "at", "x")))
HIDES = Program({"x": 2}, procedure("main", SAY))


def shows_no_more(one, other, table, found):
    """Whether a closed table and logs are a paper, from the interface alone."""
    stand = [Watcher.along(other, log).can_stand for log in found]
    for context in table:
        for knowing in table[context]:
            facts = [possible(one, knowing)]
            if context[0] == one.main and ends(one, knowing):
                facts.append(final(one, knowing))
            if not all(any(part.is_within(fact) for part in stand) for fact in facts):
                return False
    return True


class More(Case):
    def test_the_documents_programs(self):
        for one, other, due in ((HUSH, HALF, True), (HALF, HUSH, False), (MIRROR, STILL, True), (STILL, MIRROR, True), (HALF, HALF, True),
                                (TELLS, HIDES, False), (HIDES, TELLS, True), (MIRROR, TELLS, True), (HIDES, MIRROR, True)):
            paper = more_paper(one, other)
            self.same([gives_no_more(one, other), paper[0], is_more_paper(one, other, paper)], [due, "no more" if due else "more", True])
        self.same(more_paper(TELLS, HIDES)[2:], ((MAIN, ("say", "w"), ("say", "at", 0)), Table(HIDES).as_dict()))
        self.same(more_paper(HIDES, TELLS)[2], tuple(Left(TELLS).log_for(fact) for fact in Left(TELLS).sets))

    def test_what_is_known_is_not_what_is_told(self):
        # Programs with other words, and other procedures, may let the same be known.
        other = Program({"x": 2}, procedure("start", ("either", (("say", "tell", "x"),), (SAY,))))
        self.same([gives_no_more(TELLS, other), gives_no_more(other, TELLS), gives_no_more(other, HIDES)], [True, True, False])
        one = Program({"x": 2}, procedure("main", ("hide", "x"), SAY))
        self.same([gives_no_more(one, HIDES), gives_no_more(HIDES, one)], [True, True])

    def test_what_is_known_at_the_end_alone(self):
        one = Program({"x": 2}, procedure("main", SAY, ("set", "x", (), (1,))))
        kind, fact, log, table = more_paper(one, HIDES)
        self.same([kind, fact.standings, log, table], ["more", ((1,),), (MAIN, ("say", "w"), LEFT), Table(HIDES).as_dict()])
        for other, due in ((TELLS, True), (one, True), (HIDES, False)):
            self.assertIs(gives_no_more(one, other), due)
        # By the knowing of main that has ends, too, something is known; the knowings alone do not show it.
        self.assertIs(is_more_paper(one, HIDES, ("no more", Table(one).as_dict(), ((MAIN,),))), False)
        self.assertIs(is_more_paper(HIDES, one, ("no more", Table(HIDES).as_dict(), ((MAIN,),))), True)

    def test_against_all_logs(self):
        many = {"more": 0, "no more": 0}
        for seed in range(130):
            maker = Maker(seed + 2300, statements=6, shared=({"x": 2}, {"x": 2, "y": 2}, {"x": 3}))
            one = maker.program()
            other = changed(maker.chance, changed(maker.chance, one))
            if other.shared != one.shared or seed % 3 == 0:
                other = Maker(seed, statements=6, shared=(one.shared,)).program()
            paper = more_paper(one, other)
            many[paper[0]] += 1
            self.same([is_more_paper(one, other, paper), gives_no_more(one, other)], [True, paper[0] == "no more"])
            mine, theirs = Left(one), Left(other)
            self.assertIs(gives_no_more(one, other), all(fact in theirs for fact in mine.sets))
            if paper[0] == "more":
                _, fact, log, table = paper
                self.same([fact in mine, fact in theirs, Watcher.along(one, log).knows(fact), Table(other).bars(fact)], [True, False, True, True])
                found = oracle.sure_logs(one, 5)
                if found is not None:
                    telling = [len(each) for each in found if Fact(one.shared, oracle.standings(found[each])) not in theirs]
                    if telling:
                        self.assertLessEqual(len(log), min(telling))
                self.assertIs(is_more_paper(one, other, ("no more", Table(one).as_dict(), tuple(sorted(theirs.log_for(part) for part in theirs.sets)))), False)
            else:
                self.assertIs(shows_no_more(one, other, paper[1], paper[2]), True)
                self.assertEqual(paper[1], grown(one))
                self.assertEqual(list(paper[2]), sorted(set(paper[2])))
        self.assertGreater(min(many.values()), 30)

    def test_by_each_fact(self):
        for seed in range(60):
            maker = Maker(seed + 2400, statements=6, shared=({"x": 2}, {"x": 3}))
            one = maker.program()
            other = Maker(seed + 9, statements=6, shared=(one.shared,)).program()
            mine, theirs = Left(one), Left(other)
            self.assertIs(gives_no_more(one, other), all(fact in theirs for fact in facts_of(one) if fact in mine))

    def test_itself_and_with_less_shown(self):
        for seed in range(80):
            maker = Maker(seed + 2500, statements=7, shared=({"x": 2}, {"x": 2, "y": 2}, {"x": 3}))
            program = maker.program()
            self.assertIs(gives_no_more(program, program), True)
            for word in program.words:
                self.assertIs(gives_no_more(without_word(program, word), program), True)
            for name in program.names[1:]:
                self.assertIs(gives_no_more(program.with_quiet(name, True), program), True)


class Judged(Case):
    def test_bent_papers(self):
        for seed in range(70):
            maker = Maker(seed + 2600, statements=6, shared=({"x": 2}, {"x": 2, "y": 2}, {"x": 3}))
            one = maker.program()
            other = Maker(seed + 77, statements=6, shared=(one.shared,)).program()
            paper = more_paper(one, other)
            if paper[0] == "more":
                _, fact, log, table = paper
                for at in range(1, len(log)):
                    self.judged(one, other, fact, log[:at] + log[at + 1:], table)
                    self.judged(one, other, fact, log[:at], table)
                for part in facts_of(one):
                    self.judged(one, other, part, log, table)
                others = list(bent(table))
                for less in maker.chance.sample(others, min(4, len(others))):
                    self.assertIs(is_more_paper(one, other, ("more", fact, log, less)), False)
                self.assertIs(is_more_paper(one, other, ("more", fact, log, Table(one).as_dict())), one == other)
            else:
                _, table, found = paper
                for at in range(len(found)):
                    fewer = found[:at] + found[at + 1:]
                    self.assertIs(is_more_paper(one, other, ("no more", table, fewer)), shows_no_more(one, other, table, fewer))
                    self.assertIs(is_more_paper(one, other, ("no more", table, found[:at] + (found[at] + (("say", "zzz"),),) + found[at + 1:])), False)
                others = list(bent(table))
                for less in maker.chance.sample(others, min(4, len(others))):
                    self.assertIs(is_more_paper(one, other, ("no more", less, found)), False)
                more = tuple(sorted({*found, (("enter", other.main),)}))
                self.assertIs(is_more_paper(one, other, ("no more", table, more)), True)

    def judged(self, one, other, fact, log, table):
        try:
            due = Watcher.along(one, log).knows(fact) and Table(other).bars(fact)
        except (ValueError, LookupError):
            due = False
        self.assertIs(is_more_paper(one, other, ("more", fact, log, table)), due)

    def test_greater_tables(self):
        context = ("main", HIDES.begins("main"))
        narrow = ("main", ((context[1][0], (0, (0,), ())),))
        greater = grown(HIDES, [(context, narrow)])
        found = more_paper(HIDES, TELLS)[2]
        self.same([is_more_paper(HIDES, TELLS, ("no more", greater, found)), is_more_paper(HIDES, TELLS, ("no more", greater, found[:1])),
                   is_more_paper(HIDES, TELLS, ("no more", greater, found[1:]))], [True, True, False])
        # A greater table of the second program may not bar the fact any more.
        log = more_paper(TELLS, HIDES)[2]
        self.same([is_more_paper(TELLS, HIDES, ("more", Fact({"x": 2}, ((number,),)), log[:-1] + (("say", "at", number),), greater)) for number in (0, 1)],
                  [False, True])

    def test_logs_of_any_length(self):
        one = Program({"x": 2}, procedure("main", ("often", (SAY,)), ("say", "at", "x")))
        for many in (0, 1, 2000, 3000):
            log = (MAIN,) + (("say", "w"),) * many + (("say", "at", 1),)
            self.assertIs(is_more_paper(one, HIDES, ("more", ONE, log, Table(HIDES).as_dict())), True)
            self.assertIs(is_more_paper(one, HIDES, ("more", ONE, log[:-1], Table(HIDES).as_dict())), False)
            found = (log[:-1] + (("say", "at", 0),), log)
            self.assertIs(is_more_paper(TELLS, one, ("no more", Table(TELLS).as_dict(), found)), True)

    def test_two_thousand_lines(self):
        for more in (-1, 0, 1):
            program = with_lines(more)
            log = straight_log(program)[:-1]
            self.assertEqual(len(log), 2000 + more)
            self.assertIs(gives_no_more(program, HIDES), False)
            self.assertIs(is_more_paper(program, HIDES, ("more", ONE, log, Table(HIDES).as_dict())), True)
            # The second one lets both be known early, but the other one of its left sets at that log alone.
            if more <= 0:
                self.assertEqual(more_paper(program, HIDES)[1:3], (ONE, log))
                self.assertEqual(more_paper(HIDES, program)[2], (log,))
            else:
                for one, other in ((program, HIDES), (HIDES, program)):
                    self.assertEqual(self.fails(TooMany, more_paper, one, other).limit, 2000)
            self.assertIs(is_more_paper(HIDES, program, ("no more", Table(HIDES).as_dict(), (log,))), True)
            self.assertIs(is_more_paper(HIDES, program, ("no more", Table(HIDES).as_dict(), ((MAIN,),))), True)

    def test_very_long_logs(self):
        self.same([gives_no_more(HUGE_LOGS, HIDES), gives_no_more(HIDES, HUGE_LOGS), gives_no_more(HUGE_LOGS, TELLS)], [False, True, True])
        for one, other in ((HUGE_LOGS, HIDES), (HIDES, HUGE_LOGS)):
            self.assertEqual(self.fails(TooMany, more_paper, one, other).limit, 2000)
        self.assertEqual(more_paper(HUGE_LOGS, TELLS)[0], "no more")
        # Some fact that is known at a short log is enough for the first kind.
        both = with_lines(1)
        both = both.with_procedure(procedure("main", ("either", (("say", "at", "x"),), ()), *both["main"].body))
        self.assertEqual(more_paper(both, HIDES)[:1] + (len(more_paper(both, HIDES)[2]),), ("more", 2))

    def test_other_values(self):
        table, found = more_paper(HUSH, HALF)[1:]
        kind, fact, log, barring = more_paper(HALF, HUSH)
        good = ("more", fact, log, barring)
        for value in ODD + ((), ("more",), ("no more",), ("more", fact, log), good[1:], list(good), good + (1,), (None,) + good[1:], ("no more",) + good[1:],
                            ("more", fact.standings, log, barring), ("more", None, log, barring), ("more", Fact({"x": 2}, ((1,),)), log, barring),
                            ("more", Fact({"k": 2, "z": 2}, ((1, 1),)), log, barring), ("more", fact, list(log), barring), ("more", log, fact, barring),
                            ("more", fact, None, barring), ("more", fact, (), barring), ("more", fact, log, None), ("more", fact, log, {}),
                            ("more", fact, log, log), ("More", fact, log, barring), ("more", Fact.every(HALF.shared), log, barring),
                            ("no more", table, found)):
            self.assertIs(is_more_paper(HALF, HUSH, value), False, value)
        self.assertIs(is_more_paper(HALF, HUSH, good), True)
        for value in ODD + ((), ("no more", table), ("no more", table, found, found), ["no more", table, found], ("no more", found, table), ("no more", table, list(found)),
                            ("no more", table, found[::-1]), ("no more", table, found + found[-1:]), ("no more", table, ()), ("no more", {}, found),
                            ("no more", None, found), ("no more", table, None), ("no more", table, (None,)), ("no more", table, ([],) + found),
                            ("no more", table, tuple(list(log) for log in found)), ("no more", table, found + ((("say", "w"),),)), ("No more", table, found),
                            ("no more", table, ((1,),) + found), ("no more", table, found + (("enter",),)), good):
            self.assertIs(is_more_paper(HUSH, HALF, value), False, value)
        self.assertIs(is_more_paper(HUSH, HALF, ("no more", table, found)), True)
        # True is no number of a line.
        number = [log for log in found if log[-1][-1] == 1]
        bad = tuple(log[:-1] + (log[-1][:2] + (True,),) if log in number else log for log in found)
        self.assertIs(is_more_paper(HUSH, HALF, ("no more", table, bad)), False)


class Wrong(Case):
    def test_errors(self):
        for value in ODD:
            if not isinstance(value, Program):
                for ask in (gives_no_more, more_paper):
                    self.fails(InvalidProgram, ask, value, MIRROR)
                    self.fails(InvalidProgram, ask, OUTER, value)
                    self.fails(InvalidProgram, ask, value, None)
                    self.fails(InvalidProgram, ask, with_knowings(1), value)
                self.fails(InvalidProgram, is_more_paper, value, MIRROR, None)
                self.fails(InvalidProgram, is_more_paper, OUTER, value, None)
        great = with_knowings(1)
        for one, other in ((MIRROR, OUTER), (HALF, MIRROR), (great, MIRROR), (MIRROR, great), (DEEP, HALF), (MIRROR, MIRROR.with_shared("z", 2)),
                           (Program({"x": 3}, procedure("main")), MIRROR), (Program({}, procedure("main")), MIRROR)):
            for ask in (gives_no_more, more_paper):
                self.fails(InvalidOperation, ask, one, other)
            self.fails(InvalidOperation, is_more_paper, one, other, None)

    def test_four_hundred(self):
        small = Program({"x": 4, "y": 4}, procedure("main", SAY))
        program = with_knowings(0)
        self.same([gives_no_more(program, small), gives_no_more(small, program), more_paper(program, small)[0], more_paper(small, program)[0]],
                  [False, True, "more", "no more"])
        program = with_knowings(1)
        for one, other in ((program, small), (small, program), (program, program)):
            for ask in (gives_no_more, more_paper):
                self.assertEqual(self.fails(TooMany, ask, one, other).limit, 400)
        table = grown(program)
        long = straight_log(Program.of(program.shared, (procedure("main", *program["main"].body[:3]),) + program.procedures[1:]))[:-1]
        log = long + (("ask", "w", 0), ("ask", "w", 3))
        fact = Fact.where(program.shared, {"x": 0, "y": 3})
        self.same([is_more_paper(program, small, ("more", fact, log, Table(small).as_dict())),
                   is_more_paper(small, program, ("no more", Table(small).as_dict(), ((MAIN,),))),
                   is_more_paper(program, small, ("no more", table, ((MAIN,),)))], [True, True, False])

    def test_what_is_returned_is_a_copy(self):
        for one, other in ((HUSH, HALF), (HALF, HUSH)):
            before = [part for part in map(repr, more_paper(one, other)) if "object" not in part]
            paper = more_paper(one, other)
            [part.clear() for part in paper if isinstance(part, dict)]
            self.assertEqual([part for part in map(repr, more_paper(one, other)) if "object" not in part], before)
