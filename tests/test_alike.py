"""[0.21], [0.25], [14.1], [14.2]: programs that are alike."""

import random

from showncalls.base.programs import Procedure, Program
from showncalls.compare.alike import alike_paper, are_alike, is_alike_paper
from showncalls.errors import InvalidProgram, TooMany
from showncalls.know.knowings import first_knowing
from showncalls.know.watchers import is_log_of
from tests import oracle
from tests.growing import are_pairs_closed, bent_pairs, grown_pairs
from tests.helper import DEEP, HALF, MIRROR, ODD, OUTER, Case
from tests.making import HUGE_LOGS, SAY, Maker, call, changed, procedure, straight_log, with_knowings, with_lines

MAIN, LEFT = ("enter", "main"), ("leave", "main")
STILL = MIRROR.with_procedure(Procedure("p", (("either", (("call", "p", None, None),), (("say", "at", "x"),)),)))
FOUR = (MIRROR, DEEP, OUTER, HALF, STILL)


def turned(paper):
    """The same paper for the two programs in the other order."""
    kind, shown = paper
    if kind == "apart":
        return paper
    table = {(name, second, first): tuple(sorted((two, one) for one, two in shown[name, first, second])) for name, first, second in shown}
    return (kind, table)


class Alike(Case):
    def test_the_documents_programs(self):
        for one in FOUR:
            for other in FOUR:
                due = one == other or {id(one), id(other)} == {id(MIRROR), id(STILL)}
                paper = alike_paper(one, other)
                self.same([are_alike(one, other), paper[0], is_alike_paper(one, other, paper)], [due, "alike" if due else "apart", True])

    def test_the_shortest_log(self):
        self.same(len(alike_paper(MIRROR, OUTER)[1]), 3)
        self.same(alike_paper(HALF, OUTER)[1][:1], (MAIN,))
        for one, other, due in (
            (procedure("main", SAY), procedure("main", SAY, SAY), [(MAIN, ("say", "w"), LEFT), (MAIN, ("say", "w"), ("say", "w"))]),
            (procedure("main", SAY), procedure("main", ("say", "v", None)), [(MAIN, ("say", "v")), (MAIN, ("say", "w"))]),
            (procedure("main"), procedure("main", ("often", (SAY,))), [(MAIN, ("say", "w"))]),
            (procedure("main", ("either", (SAY, SAY), ())), procedure("main", ("either", (SAY,), ())), [(MAIN, ("say", "w"), ("say", "w")), (MAIN, ("say", "w"), LEFT)]),
        ):
            for first, second in ((one, other), (other, one)):
                self.assertIn(alike_paper(Program({}, first), Program({}, second)), [("apart", log) for log in due])

    def test_other_names_of_main(self):
        one, other = Program({}, procedure("main", SAY)), Program({}, procedure("start", SAY))
        self.same(are_alike(one, other), False)
        kind, log = alike_paper(one, other)
        self.same([kind, len(log), is_alike_paper(one, other, (kind, log))], ["apart", 1, True])
        for log in ((MAIN,), (("enter", "start"),), (MAIN, ("say", "w")), (("enter", "start"), ("say", "w"), ("leave", "start"))):
            self.assertIs(is_alike_paper(one, other, ("apart", log)), True)
        table = alike_paper(one, one)[1]
        for first, second in ((one, other), (other, one)):
            self.same([is_alike_paper(first, second, ("alike", shown)) for shown in (table, {})], [False, False])

    def test_other_shared_cells(self):
        for program in FOUR:
            more = program.with_shared("z", 2)
            for one, other in ((program, more), (more, program), (more, program.with_shared("zz", 2))):
                self.assertIs(are_alike(one, other), True)
                self.assertIs(is_alike_paper(one, other, alike_paper(one, other)), True)
        # Cells of other names and sizes, and none: the log alone counts.
        one = Program({"x": 2}, procedure("main", ("set", "x", (), (1,)), ("say", "at", "x")))
        other = Program({"y": 4, "z": 3}, procedure("main", ("set", "y", (), (1,)), ("say", "at", "y")))
        self.same([are_alike(one, other), alike_paper(one, other)[0]], [True, "alike"])
        third = other.with_procedure(procedure("main", ("set", "y", (), (2,)), ("say", "at", "y")))
        self.same([are_alike(one, third), len(alike_paper(one, third)[1])], [False, 2])
        own = Program({}, procedure("main", ("set", "a", (), (1,)), ("say", "at", "a"), own=(("a", 3),)))
        self.same([are_alike(one, own), are_alike(own, one)], [True, True])

    def test_a_quiet_one_and_a_seen_one(self):
        seen = Program({}, procedure("main", call("p"), SAY), procedure("p"))
        quiet = seen.with_quiet("p", True)
        self.same([are_alike(seen, quiet), alike_paper(seen, quiet)[0]], [False, "apart"])
        self.assertIn(alike_paper(seen, quiet)[1], [(MAIN, ("enter", "p")), (MAIN, ("say", "w"))])
        # One that is never called is nowhere in the log; its triples have no place in a table, if it is quiet on one side.
        never = Program({}, procedure("main", SAY), procedure("p", SAY))
        other = never.with_quiet("p", True)
        paper = alike_paper(never, other)
        self.same([paper[0], list(paper[1])], ["alike", [("main", never.begins("main"), other.begins("main"))]])
        triple = ("p", never.begins("p"), other.begins("p"))
        knowing = first_knowing(never, "p", never.begins("p"))
        self.assertIs(is_alike_paper(never, other, ("alike", {**paper[1], triple: ((knowing, knowing),)})), False)

    def test_against_all_logs(self):
        many = {"alike": 0, "apart": 0}
        for seed in range(160):
            maker = Maker(seed + 1700, statements=5, most=3)
            one = maker.program()
            other = changed(maker.chance, changed(maker.chance, one)) if seed < 130 else maker.program()
            paper = alike_paper(one, other)
            many[paper[0]] += 1
            self.same([is_alike_paper(one, other, paper), is_alike_paper(other, one, turned(paper))], [True, True])
            self.assertIs(are_alike(one, other), paper[0] == "alike")
            self.assertIs(are_alike(other, one), paper[0] == "alike")
            first, second = oracle.sure_logs(one, 5), oracle.sure_logs(other, 5)
            if first is not None and second is not None:
                apart = [len(log) for log in {*first} ^ {*second}]
                if apart:
                    self.same([paper[0], len(paper[1])], ["apart", min(apart)])
                elif paper[0] == "apart":
                    self.assertGreater(len(paper[1]), 5)
            if paper[0] == "apart":
                self.assertNotEqual(is_log_of(one, paper[1]), is_log_of(other, paper[1]))
            else:
                self.assertEqual(paper[1], grown_pairs(one, other))
        self.assertGreater(min(many.values()), 40)

    def test_itself_and_with_new_names(self):
        for seed in range(50):
            maker = Maker(seed + 1900, statements=6, most=4)
            one, other = maker.program(), maker.program()
            names = {"main": "start", "p": "q", "q": "p", "r": "s"}
            renamed = [program.renamed({name: names[name] for name in program.names}) for program in (one, other)] if all(
                {"p", "q"} <= {*program.names} or not {"p", "q"} & {*program.names} for program in (one, other)) else [one, other]
            self.same(are_alike(one, one), True)
            self.same(are_alike(one, other), are_alike(*renamed))
            paper = alike_paper(one, one)
            self.same([paper[0], is_alike_paper(one, one, paper)], ["alike", True])

    def test_chains(self):
        for seed in range(30):
            maker = Maker(seed + 2000, statements=5)
            chain = [maker.program()]
            for _ in range(4):
                chain.append(changed(maker.chance, chain[-1]))
            told = [[are_alike(one, other) for other in chain] for one in chain]
            for first in range(5):
                for second in range(5):
                    self.assertIs(told[first][second], told[second][first])
                    # What is alike is alike to the same programs.
                    if told[first][second]:
                        self.assertEqual(told[first], told[second])


class Judged(Case):
    def test_bent_tables(self):
        for seed in range(60):
            maker = Maker(seed + 2100, statements=5)
            one = maker.program()
            other = changed(maker.chance, one)
            kind, table = alike_paper(one, other)
            if kind == "alike":
                for bent in maker.chance.sample(list(bent_pairs(table)), min(8, len(list(bent_pairs(table))))):
                    self.assertIs(is_alike_paper(one, other, ("alike", bent)), are_pairs_closed(one, other, bent))
                self.assertIs(is_alike_paper(one, other, ("apart", table)), False)
            else:
                grown = grown_pairs(one, other) if one.main == other.main else {}
                self.same([is_alike_paper(one, other, ("alike", shown)) for shown in (grown, {}, table)], [False] * 3)

    def test_greater_tables(self):
        # In each of them stands a knowing that no log leads to; it may be apart from its other side, or not.
        start = ("main", STILL.begins("main"), STILL.begins("main"))
        begins = MIRROR.begins("p")
        for triple, one, other in (
            (start, first_knowing(MIRROR, "main", MIRROR.begins("main")), ("main", ((begins[0], (0, (1,), ())),))),
            (("p", begins[:1], begins), first_knowing(MIRROR, "p", begins[:1]), first_knowing(STILL, "p", begins)),
            (("p", begins[:1], begins[:1]), first_knowing(MIRROR, "p", begins[:1]), first_knowing(STILL, "p", begins[:1])),
            (start, ("main", ((begins[0], (1, (0,), ())),)), ("main", ((begins[1], (1, (1,), ())),))),
            (start, ("main", ((begins[0], (1, (0,), ())),)), ("main", ((begins[1], (0, (1,), ())),))),
        ):
            table = grown_pairs(MIRROR, STILL, [(triple, (one, other))])
            self.assertNotEqual(table, alike_paper(MIRROR, STILL)[1])
            closed = are_pairs_closed(MIRROR, STILL, table)
            self.assertIs(is_alike_paper(MIRROR, STILL, ("alike", table)), closed)
        wide = grown_pairs(MIRROR, MIRROR, [(("p", begins[:1], begins[:1]), (first_knowing(MIRROR, "p", begins[:1]),) * 2)])
        self.same([len(wide) > len(alike_paper(MIRROR, MIRROR)[1]), is_alike_paper(MIRROR, MIRROR, ("alike", wide))], [True, True])

    def test_many_greater_tables(self):
        closed = 0
        for seed in range(60):
            maker = Maker(seed + 2200, statements=5, shared=({"x": 2}, {"x": 2, "y": 2}))
            one = maker.program()
            other = changed(random.Random(seed), one)
            kind, table = alike_paper(one, other)
            if kind == "alike":
                for triple in table:
                    pair = maker.chance.choice(table[triple])
                    fewer = tuple((name, tuple(maker.chance.sample(pairs, 1))) for name, pairs in pair)
                    greater = grown_pairs(one, other, [(triple, fewer)])
                    due = are_pairs_closed(one, other, greater)
                    closed += due and greater != table
                    self.assertIs(is_alike_paper(one, other, ("alike", greater)), due)
        self.assertGreater(closed, 10)

    def test_logs_of_any_length(self):
        one = Program({}, procedure("main", ("often", (SAY,))))
        other = one.with_procedure(procedure("main", ("often", (SAY,)), ("either", (), (("say", "z", None),))))
        for many in (0, 1, 1999, 3000):
            log = (MAIN,) + (("say", "w"),) * many
            for first, second in ((one, other), (other, one)):
                self.same([is_alike_paper(first, second, ("apart", log + rest)) for rest in ((), (LEFT,), (("say", "z"),), (("say", "z"), LEFT))],
                          [False, False, True, True])

    def test_two_thousand_lines(self):
        for more in (-2, -1, 0):
            program = with_lines(more)
            log = straight_log(program)
            # The last line but one is another one.
            other = program.with_procedure(procedure("main", *program["main"].body[:-1], ("say", "other", None)))
            due = [("apart", log[:-1]), ("apart", log[:-2] + (("say", "other"),))]
            self.assertEqual(len(log), 2001 + more)
            self.assertIs(are_alike(program, other), False)
            self.assertIn(alike_paper(program, other), due)
            # The last line.
            other = program.with_procedure(procedure("main", *program["main"].body, SAY))
            due = [("apart", log), ("apart", log[:-1] + (("say", "w"),))]
            if more < 0:
                self.assertIn(alike_paper(program, other), due)
            else:
                self.assertEqual(self.fails(TooMany, alike_paper, program, other).limit, 2000)
            self.assertTrue(all(is_alike_paper(program, other, paper) for paper in due))
        longer = HUGE_LOGS.with_procedure(procedure("main", *HUGE_LOGS["main"].body, SAY))
        self.same(are_alike(HUGE_LOGS, longer), False)
        self.assertEqual(self.fails(TooMany, alike_paper, HUGE_LOGS, longer).limit, 2000)

    def test_other_values(self):
        kind, table = alike_paper(MIRROR, STILL)
        log = alike_paper(MIRROR, OUTER)[1]
        (main, inner) = table
        for value in ODD + ((), ("alike",), ("alike", table, table), ["alike", table], ("Alike", table), (None, table), (table, "alike"), table,
                            ("apart", table), ("alike", log), ("apart", log), ("alike", None), ("apart", None), ("alike", {}), ("apart", ()),
                            ("apart", (MAIN,)), ("alike", {main: table[main]}), ("alike", {inner: table[inner]}), ("alike", {**table, None: ()}),
                            ("alike", {**table, main: ()}), ("alike", {**table, main: list(table[main])}), ("alike", {**table, main: table[main][::-1]}),
                            ("alike", {**table, main: table[main] + table[main][-1:]}), ("alike", {**table, main[:2]: table[main]}),
                            ("alike", {**table, ("p", (), ()): table[inner]}), ("alike", {**table, ("q",) + inner[1:]: table[inner]}),
                            ("alike", {**table, inner: table[main]}), ("alike", {**table, main: tuple(list(pair) for pair in table[main])}),
                            ("alike", {**table, main: tuple(pair + pair[:1] for pair in table[main])}),
                            ("alike", {**table, ("p", inner[1], list(inner[2]) and (inner[2][1],)): table[inner]}),
                            ("alike", {**table, main: table[main][:-1] + ((table[main][-1][0], table[inner][-1][1]),)})):
            self.assertIs(is_alike_paper(MIRROR, STILL, value), False, value)
        self.assertIs(is_alike_paper(MIRROR, STILL, (kind, table)), True)
        # True is no number, also where it is equal to one; a main has all its begins in each triple.
        (name, pairs), other = table[main][0]
        for now in ((0, (True,), ()), (False, (1,), ()), (0, [1], ()), (0, (1,), []), (0, (1,)), [0, (1,), ()]):
            bent = ((name, pairs[:-1] + ((pairs[-1][0], now),)), other)
            self.assertIs(is_alike_paper(MIRROR, STILL, ("alike", {**table, main: (bent,) + table[main][1:]})), False)
        # A triple that is one on one side alone.
        for triple in (("p", inner[1], inner[2] + (((5,), ()),)), ("p", inner[1] + (((5,), ()),), inner[2]), ("p", inner[1], inner[2][::-1]), ("p", [*inner[1]], inner[2]),
                       ("main", main[1], main[2][:1]), ("p", inner[1], (((True,), ()),))):
            if not isinstance(triple[1], list):
                self.assertIs(is_alike_paper(MIRROR, STILL, ("alike", {**table, triple: table[inner]})), False)
                self.assertIs(is_alike_paper(MIRROR, STILL, ("alike", {**table, triple: table[main]})), False)
        part = ("main", main[1][:1], main[2])
        fewer = ((("main", pairs[:1]), other),)
        self.assertIs(is_alike_paper(MIRROR, STILL, ("alike", {**table, part: fewer})), False)

    def test_a_begin_that_the_triple_has_not(self):
        table = alike_paper(MIRROR, MIRROR)[1]
        begins = MIRROR.begins("p")
        triple = ("p", begins[:1], begins[:1])
        first = first_knowing(MIRROR, "p", begins[:1])
        other = first_knowing(MIRROR, "p", begins[1:])
        good = grown_pairs(MIRROR, MIRROR, [(triple, (first, first))])
        self.assertIs(is_alike_paper(MIRROR, MIRROR, ("alike", good)), True)
        for pair in ((first, other), (other, first), (other, other)):
            bad = {**good, triple: tuple(sorted({*good[triple], pair}))}
            self.assertIs(is_alike_paper(MIRROR, MIRROR, ("alike", bad)), False)
        self.assertIn(triple, good)
        self.assertNotIn(triple, table)


class Wrong(Case):
    def test_errors(self):
        for value in ODD:
            if not isinstance(value, Program):
                for ask in (are_alike, alike_paper):
                    self.fails(InvalidProgram, ask, value, MIRROR)
                    self.fails(InvalidProgram, ask, MIRROR, value)
                    self.fails(InvalidProgram, ask, value, None)
                    self.fails(InvalidProgram, ask, with_knowings(1), value)
                self.fails(InvalidProgram, is_alike_paper, value, MIRROR, None)
                self.fails(InvalidProgram, is_alike_paper, MIRROR, value, None)

    def test_four_hundred(self):
        program = with_knowings(0)
        self.same([are_alike(program, program), is_alike_paper(program, program, alike_paper(program, program))], [True, True])
        program = with_knowings(1)
        for ask in (are_alike, alike_paper):
            self.assertEqual(self.fails(TooMany, ask, program, program).limit, 400)
        table = grown_pairs(program, program)
        self.same([sum(map(len, table.values())), is_alike_paper(program, program, ("alike", table))], [401, True])

    def test_pairs_behind_a_difference(self):
        # Right behind the first line one of them can say one more word; with all other lines they go on together.
        for more, many in ((0, 400), (1, 401)):
            one = with_knowings(more)
            main = one["main"]
            other = one.with_procedure(Procedure("main", (("either", (("say", "v", None),), ()),) + main.body[:-1], own=main.own))
            one = one.with_procedure(Procedure("main", main.body[:-1], own=main.own))
            self.assertEqual(sum(map(len, grown_pairs(one, other).values())), many - 64)
            self.assertIs(are_alike(one, other), False)
        # Just 400, and one more.
        for more, fine in ((64, True), (65, False)):
            one = with_knowings(0)
            main, said = one["main"], [SAY] * (more - 64)
            other = Procedure("main", (("either", (("say", "v", None),), ()),) + main.body, own=main.own)
            one = one.with_procedure(Procedure("r", one["r"].body + tuple(said)))
            other = one.with_procedure(other)
            if fine:
                self.same([are_alike(one, other), len(alike_paper(one, other)[1])], [False, 2])
            else:
                for ask in (are_alike, alike_paper):
                    self.assertEqual(self.fails(TooMany, ask, one, other).limit, 400)

    def test_great_programs_with_few_pairs(self):
        # Both have more than 400 knowings, but hardly a line together.
        one = with_knowings(15)
        other = one.with_procedure(Procedure("main", (("say", "v", None),) + one["main"].body, own=one["main"].own))
        self.same([are_alike(one, other), len(alike_paper(one, other)[1])], [False, 2])
        start = one.renamed({"main": "start"})
        self.same([are_alike(one, start), len(alike_paper(one, start)[1])], [False, 1])

    def test_what_is_returned_is_a_copy(self):
        paper = alike_paper(MIRROR, STILL)
        before = repr(paper)
        paper[1].clear()
        self.assertEqual(repr(alike_paper(MIRROR, STILL)), before)
        self.assertEqual(list(alike_paper(MIRROR, STILL)[1]), sorted(alike_paper(MIRROR, STILL)[1]))
