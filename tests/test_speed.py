"""Many small questions, one behind the other: all answers stay the same, and none takes long."""

import time
from unittest.mock import patch

from showncalls.base.facts import Fact
from showncalls.base.programs import Procedure, Program
from showncalls.compare.alike import alike_paper
from showncalls.compare.more import more_paper
from showncalls.compare.silent import silent_paper
from showncalls.errors import InvalidFact, InvalidKnowing, InvalidLog, InvalidNumber, InvalidOperation, TooMany
from showncalls.give.ends import settled_paper
from showncalls.give.left import Left
from showncalls.give.papers import fact_paper, is_fact_paper
from showncalls.know.knowings import ends, entered, first_knowing, possible, spoken
from showncalls.know.silent import nows, passages
from showncalls.know.tables import Table, is_closed, is_table
from showncalls.know.watchers import Watcher, is_log_of
from showncalls.run.runs import is_situation, moves
from tests.helper import DEEP, HALF, MIRROR, ODD, OUTER, Case
from tests.making import Maker, with_knowings

LOG = (("enter", "main"),) + (("enter", "p"),) * 4 + (("say", "at", 1),)
SITUATION = ((0,), (("main", 0, ()),) + (("p", 1, ()),) * 59 + (("p", 0, ()),))
KNOWING = first_knowing(DEEP, "p", DEEP.begins("p"))
ONE = Fact.where(DEEP.shared, {"x": 1})
NEVER = Fact.where(DEEP.shared, {"c": 2, "x": 1})
WIDE = Program({"x": 4, "y": 4}, Procedure("main", (("say", "w", "x"),)))


def fresh(program):
    """An equal program of which nothing has been asked."""
    return Program.of(program.shared, tuple(Procedure(one.called, one.body, own=one.own, quiet=one.quiet) for one in program.procedures))


def bent(value):
    """All values that differ from this one in one place: a list for a tuple, True for 1, another number, an item less."""
    if isinstance(value, dict):
        for key in value:
            for other in bent(value[key]):
                yield {**value, key: other}
            for other in bent(key):
                if not has_list(other):
                    yield {**{one: value[one] for one in value if one != key}, other: value[key]}
            yield {one: value[one] for one in value if one != key}
    elif isinstance(value, tuple):
        yield list(value)
        for at, part in enumerate(value):
            for other in bent(part):
                yield value[:at] + (other,) + value[at + 1:]
            yield value[:at] + value[at + 1:]
    elif isinstance(value, int):
        yield from {0: (False, 9, None), 1: (True, 0)}.get(value, (-1, 0, str(value)))
    else:
        yield from (None, value + "z", (value,))


def has_list(value):
    return isinstance(value, list) or isinstance(value, tuple) and any(has_list(part) for part in value)


def outcome(call, *args):
    """What a call returns, or the class of the error that it raises with what it keeps."""
    try:
        told = call(*args)
    except (ValueError, LookupError, OverflowError) as error:
        return error.__class__, repr(vars(error))
    return told if isinstance(told, (bool, str)) else repr(told)


class Again(Case):
    def asked(self, program, call, good, others):
        """A good value asked again and again, with others between; each answer is that of a program asked nothing before."""
        due = outcome(call, fresh(program), good)
        self.assertFalse(isinstance(due, tuple), due)
        for other in others:
            self.assertEqual(outcome(call, program, other), outcome(call, fresh(program), other), other)
        for _ in range(3):
            self.assertEqual(outcome(call, program, good), due)
        for other in others:
            self.assertEqual(outcome(call, program, other), outcome(call, fresh(program), other), other)
            self.assertEqual(outcome(call, program, good), due)

    def test_moves(self):
        short = (SITUATION[0], SITUATION[1][:2] + SITUATION[1][-1:])
        self.asked(MIRROR, moves, short, list(bent(short)))
        self.asked(MIRROR, is_situation, short, list(bent(short)))
        self.asked(MIRROR, moves, SITUATION, list(bent(SITUATION))[::40])
        for wrong in (((0,), [*SITUATION[1]]), ((False,), SITUATION[1]), ((0,), SITUATION[1][:30] + (("p", True, ()),) + SITUATION[1][31:]),
                      ((0,), SITUATION[1][:30] + (["p", 1, ()],) + SITUATION[1][31:]), ((0,), SITUATION[1][:-1] + (("p", 3, ()), (None, 0, ()))),
                      ((0,), SITUATION[1][:-1] + (("p", 3, ()), ("p", 0, ()))), ((0,), SITUATION[1] + (("main", 0, ()),)), ((0,), SITUATION[1][1:])):
            self.same(is_situation(MIRROR, SITUATION), True)
            self.same(is_situation(MIRROR, wrong), False)
            self.fails(InvalidOperation, moves, MIRROR, wrong)
        self.assertEqual(moves(MIRROR, SITUATION), moves(fresh(MIRROR), SITUATION))

    def test_logs(self):
        self.asked(DEEP, is_log_of, LOG, list(bent(LOG)))
        self.asked(DEEP, lambda program, log: Watcher.along(program, log).knowing, LOG, list(bent(LOG)))
        for wrong in (list(LOG), LOG[:-1] + (("say", "at", True),), LOG[:-1] + (["say", "at", 1],)):
            self.same([is_log_of(DEEP, LOG), is_log_of(DEEP, wrong)], [True, False])
            self.fails(InvalidLog, Watcher.along, DEEP, wrong)
            self.same(len(Watcher.along(DEEP, LOG)), 6)

    def test_watchers(self):
        for program, log in ((DEEP, LOG), (DEEP, LOG[:-1]), (WIDE, LOG[:1]), (HALF, LOG[:1])):
            watcher, other = Watcher.along(program, log), Watcher.along(fresh(program), log)
            facts = [Fact.where(program.shared, {cell: 1}) for cell in program.shared] + [Fact(program.shared), Fact.every(program.shared)]
            for _ in range(3):
                self.assertEqual(watcher.can_stand, other.can_stand)
                for fact in facts:
                    self.same([watcher.knows(fact), watcher.answer(fact)], [watcher.can_stand.is_within(fact), watcher.answer(~~fact)])
                    due = "surely" if watcher.can_stand.is_within(fact) else "open" if watcher.can_stand & fact else "never"
                    self.same(watcher.answer(fact), due)
                for value in ODD + (facts[0].standings, Fact({"zz": 2}), None):
                    if not isinstance(value, Fact) or value.cells != program.shared:
                        self.fails(InvalidFact, watcher.knows, value)
                        self.fails(InvalidFact, watcher.answer, value)
        # What it has told goes on with the log, there and back.
        watcher = Watcher(HALF)
        told = [watcher.can_stand]
        for line in (("say", "a", 1), ("say", "b", 0), ("leave", "main")):
            watcher.see(line)
            told.append(watcher.can_stand)
        self.same([len(fact) for fact in told], [4, 2, 1, 1])
        with watcher.trial():
            watcher.back(many=2)
            self.assertEqual(watcher.can_stand, told[1])
        self.assertEqual(watcher.can_stand, told[3])
        twin = watcher.twin()
        for at in (2, 1, 0):
            watcher.back()
            self.assertEqual((watcher.can_stand, twin.can_stand), (told[at], told[3]))
        watcher.see(("say", "a", 0))
        self.same([watcher.can_stand.standings, told[1].standings], [((0, 0), (1, 1)), ((0, 1), (1, 0))])

    def test_knowings(self):
        for call in (spoken, entered, ends):
            self.asked(DEEP, call, KNOWING, list(bent(KNOWING)))
            for wrong in (list(KNOWING), (KNOWING[0], list(KNOWING[1])), (KNOWING[0], KNOWING[1][::-1]), (KNOWING[0], KNOWING[1][:-1] + (((KNOWING[1][-1][0]), (False, *KNOWING[1][-1][1][1:])),))):
                call(DEEP, KNOWING)
                self.fails(InvalidKnowing, call, DEEP, wrong)

    def test_tables(self):
        table = Table(DEEP).as_dict()
        others = list(bent(table))
        self.asked(DEEP, is_closed, table, others[::7])
        self.asked(DEEP, is_table, table, others[::7])
        self.same([Table(DEEP) == Table(fresh(DEEP)), len(Table(DEEP)), str(Table(DEEP))], [True, 15, str(Table(fresh(DEEP)))])
        for limit in (True, 0, 401, None, "1"):
            self.fails(InvalidNumber, Table, DEEP, limit=limit)
        for program in (DEEP, fresh(DEEP)):
            for limit, fine in ((400, True), (14, False), (15, True), (1, False), (14, False), (400, True), (16, True)):
                if fine:
                    self.same(Table(program, limit=limit).as_dict(), table)
                else:
                    self.same(self.fails(TooMany, Table, program, limit=limit).limit, limit)
        great = with_knowings(1)
        for limit in (5, 400, 399, 400, 1, 400):
            self.same(self.fails(TooMany, Table, great, limit=limit).limit, limit)

    def test_papers(self):
        table = Table(DEEP).as_dict()
        self.asked(DEEP, lambda program, value: is_fact_paper(program, ONE, value), ("known", LOG), list(bent(("known", LOG))))
        others = list(bent(("never", table)))
        self.asked(DEEP, lambda program, value: is_fact_paper(program, NEVER, value), ("never", table), others[::7])
        for fact in (ONE, NEVER, Fact(DEEP.shared), Fact.every(DEEP.shared)):
            self.asked(DEEP, fact_paper, fact, [Fact({"x": 2}), None, fact.standings, Fact(DEEP.shared)])


class Copies(Case):
    def test_returned_dicts_that_the_caller_changes(self):
        knowing = first_knowing(OUTER, "p", OUTER.begins("p"))
        for call in (lambda: spoken(OUTER, knowing), lambda: entered(OUTER, first_knowing(OUTER, "main", OUTER.begins("main"))), lambda: Table(DEEP).as_dict(),
                     lambda: fact_paper(DEEP, NEVER)[1], lambda: Watcher(DEEP).can_stand.cells):
            due = repr(call())
            for change in (lambda told: told.clear(), lambda told: told.update(zz=1), lambda told: told.pop(next(iter(told))), lambda told: told.update({key: () for key in told})):
                told = call()
                self.assertTrue(told)
                change(told)
                self.assertEqual(repr(call()), due)
        table = fact_paper(DEEP, NEVER)[1]
        table.clear()
        self.same([is_fact_paper(DEEP, NEVER, ("never", table)), is_fact_paper(DEEP, NEVER, fact_paper(DEEP, NEVER)), is_closed(DEEP, Table(DEEP).as_dict())],
                  [False, True, True])

    def test_passed_dicts_that_the_caller_changes(self):
        table = Table(DEEP).as_dict()
        context = list(table)[-1]
        whole = table[context]
        for changed in (whole[1:], whole[:-1], whole[::-1], list(whole), whole + whole[-1:], (), None, (list(whole[0]),) + whole[1:]):
            table[context] = whole
            self.same([is_table(DEEP, table), is_closed(DEEP, table), is_fact_paper(DEEP, NEVER, ("never", table))], [True] * 3)
            table[context] = changed
            self.same([is_closed(DEEP, table), is_fact_paper(DEEP, NEVER, ("never", table)), is_table(DEEP, table)], [False, False, changed in (whole[1:], whole[:-1])])
        del table[context]
        self.same([is_closed(DEEP, table), is_fact_paper(DEEP, NEVER, ("never", table))], [False, False])
        table[context] = whole
        table["zz"] = whole
        self.same([is_table(DEEP, table), is_closed(DEEP, table)], [False, False])

    def test_cells_that_the_caller_changes(self):
        cells = {"c": 4, "x": 2}
        fact, program = Fact.where(cells, {"x": 1}), Program(cells, *DEEP.procedures)
        paper = fact_paper(program, fact)
        cells["x"] = 4
        cells["y"] = 2
        self.same([fact == ONE, program == DEEP, fact_paper(program, fact) == paper, is_fact_paper(program, fact, paper)], [True] * 4)
        program.shared["x"] = 3
        fact.cells["x"] = 3
        self.same([fact == ONE, program == DEEP, Watcher.along(program, LOG).knows(fact)], [True] * 3)


class SmallAndMany(Case):
    def test_more_answers_than_are_kept(self):
        # Each knowing of a program, one begin less or more: far more of them than what is found at logs.
        for seed in range(6):
            maker = Maker(seed + 7600, statements=6, shared=({"x": 2, "y": 2},))
            program = maker.program()
            begins = program.begins("main")
            for bits in range(1, 2 ** len(begins)):
                knowing = first_knowing(program, "main", tuple(begin for at, begin in enumerate(begins) if bits >> at & 1))
                for call in (spoken, entered, ends):
                    self.assertEqual(call(program, knowing), call(fresh(program), knowing))


    def test_with_little_room(self):
        """The same, if hardly anything can be kept: answers are then found anew."""
        for seed in range(12):
            maker = Maker(seed + 7700, statements=6)
            program = maker.program()
            due = [Table(program).as_dict(), fact_paper(program, Fact(program.shared))]
            with patch("showncalls.know.minds.MOST_KEPT", 2), patch("showncalls.know.walks.MOST_SETTLED", 3):
                other = fresh(program)
                for _ in range(2):
                    self.assertEqual([Table(other).as_dict(), fact_paper(other, Fact(program.shared))], due)
                    self.assertIs(is_closed(other, due[0]), True)
                    for context in due[0]:
                        for knowing in due[0][context][:5]:
                            for call in (spoken, entered, ends):
                                self.assertEqual(call(other, knowing), call(program, knowing))
                            log = Table(other).shortest_log(context, knowing)
                            watcher = Watcher.along(other, log)
                            self.assertEqual(watcher.knowing, knowing)
                            for standing in watcher.can_stand.standings:
                                self.assertEqual((watcher.run(standing).log, watcher.run(standing).standing), (log, standing))
                    for begin in program.begins("main")[:3]:
                        self.assertEqual(nows(other, "main", (0,) + begin), nows(program, "main", (0,) + begin))
                    self.assertEqual([passages(other, name) for name in program.names], [passages(program, name) for name in program.names])
                    self.assertEqual(outcome(silent_paper, other), outcome(silent_paper, program))


    def test_answers_do_not_rest_on_what_was_asked_before(self):
        """[0.2]: equal calls on equal states return equal results, also if one of the programs was asked other things before."""
        for seed in range(60):
            maker = Maker(seed + 7900, statements=7, quiet=0.7)
            program = maker.program()
            table = Table(program)
            every = Fact.every(program.shared).standings
            fact = Fact(program.shared, tuple(sorted(maker.chance.sample(every, maker.chance.randint(0, len(every))))))
            asks = [lambda one, log=table.shortest_log(context, knowing), row=row: Watcher.along(one, log).run(row).choices
                    for context in table.contexts for knowing in table[context][:6] for row in possible(program, knowing).standings[:2]]
            asks = maker.chance.sample(asks, min(12, len(asks)))
            asks += [lambda one: outcome(silent_paper, one), lambda one: outcome(settled_paper, one, fact), lambda one: outcome(fact_paper, one, fact),
                     lambda one: repr([nows(one, "main", (0,) + begin) for begin in one.begins("main")]), lambda one: repr([passages(one, name) for name in one.names]),
                     lambda one: outcome(alike_paper, one, one), lambda one: outcome(more_paper, one, one), lambda one: outcome(left_log, one, fact)]
            due = [ask(fresh(program)) for ask in asks]
            for _ in range(2):
                order = list(range(len(asks)))
                maker.chance.shuffle(order)
                used = fresh(program)
                for at in order + order[::-1]:
                    self.assertEqual(asks[at](used), due[at])


def left_log(program, fact):
    return [Left(program).log_for(part) for part in Left(program).sets] + [Left(program).log_for(fact, at_end=True)]


class Times(Case):
    """The time of one call, printed for each row; they fail only if one takes ten times what it took once."""

    def test_each_row(self):
        table = Table(DEEP).as_dict()
        eight, sixteen = Watcher.along(DEEP, LOG[:-1]), Watcher(WIDE)
        half = Fact.where(WIDE.shared, {"x": 1})
        rows = (
            ("moves", 0.24, lambda: moves(MIRROR, SITUATION)),
            ("is_log_of", 0.17, lambda: is_log_of(DEEP, LOG)),
            ("Watcher.along", 0.24, lambda: Watcher.along(DEEP, LOG)),
            ("can_stand, 8", 0.01, lambda: eight.can_stand),
            ("knows, 8", 0.01, lambda: eight.knows(ONE)),
            ("answer, 8", 0.025, lambda: eight.answer(ONE)),
            ("can_stand, 16", 0.02, lambda: sixteen.can_stand),
            ("knows, 16", 0.02, lambda: sixteen.knows(half)),
            ("answer, 16", 0.05, lambda: sixteen.answer(half)),
            ("spoken", 0.13, lambda: spoken(DEEP, KNOWING)),
            ("entered", 0.13, lambda: entered(DEEP, KNOWING)),
            ("ends", 0.13, lambda: ends(DEEP, KNOWING)),
            ("Table", 0.42, lambda: Table(DEEP)),
            ("is_closed", 0.43, lambda: is_closed(DEEP, table)),
            ("is_fact_paper, known", 0.35, lambda: is_fact_paper(DEEP, Fact.where(DEEP.shared, {"x": 1}), ("known", LOG))),
            ("is_fact_paper, never", 0.58, lambda: is_fact_paper(DEEP, Fact.where(DEEP.shared, {"c": 2, "x": 1}), ("never", table))),
            ("fact_paper", 0.37, lambda: fact_paper(DEEP, Fact.where(DEEP.shared, {"x": 1}))),
        )
        print()
        for name, took, call in rows:
            start = time.perf_counter()
            for _ in range(1000):
                call()
            one = time.perf_counter() - start
            print(f"{name:22} {one:.4f} ms")
            self.assertLess(one, 10 * took, name)
