"""[0.18], [0.19], [0.25], and the section of tables."""

from showncalls.base.facts import Fact
from showncalls.base.programs import Procedure, Program
from showncalls.errors import InvalidFact, InvalidNumber, InvalidProgram, InvalidTable, TooMany
from showncalls.know.knowings import final, first_knowing, possible
from showncalls.know.tables import MAX_KNOWINGS, Table, is_closed, is_table
from showncalls.know.watchers import Watcher
from tests import oracle
from tests.growing import bent, grown, main_context
from tests.helper import DEEP, HALF, HUGE, MIRROR, ODD, OUTER, Case
from tests.making import HUGE_LOGS, SAY, Maker, call, huge_length, procedure, straight_log, with_knowings, with_lines

LEAST = Table(OUTER).as_dict()
CONTEXT = main_context(OUTER)
FIRST = first_knowing(OUTER, *CONTEXT)
LOST = Program({"x": 2}, procedure("main", ("if", "x", 1, (call("q"),), ()), SAY), procedure("q", call("q"), quiet=True))
NO_TABLES = tuple(value for value in ODD if value != {}) + (
    {CONTEXT: ()}, {CONTEXT: [FIRST]}, {CONTEXT: FIRST}, {CONTEXT: None}, {CONTEXT: (FIRST, FIRST)}, {CONTEXT: LEAST[CONTEXT][::-1]},
    {CONTEXT: ((FIRST[0], ()),)}, {CONTEXT: (("main", FIRST[1][::-1]),)}, {"main": (FIRST,)}, {("main",): (FIRST,)}, {("main", ()): (FIRST,)},
    {("main", CONTEXT[1][:1]): ((FIRST[0], FIRST[1][:1]),)}, {("main", CONTEXT[1][::-1]): (FIRST,)}, {("q", CONTEXT[1]): (FIRST,)},
    {("main", CONTEXT[1], ()): (FIRST,)}, {(None, CONTEXT[1]): (FIRST,)}, {None: (FIRST,)}, {(): (FIRST,)}, {CONTEXT: (FIRST,), 1: ()},
    {("p", (((0,), (0,)),)): (FIRST,)}, {("p", (((0,), (0,)),)): (first_knowing(OUTER, "p", (((0,), (1,)),)),)},
    {("p", (((0,), (0,)), ((0,), (0,)))): (first_knowing(OUTER, "p", (((0,), (0,)),)),)}, {CONTEXT: (("main", (None,)),)},
    [CONTEXT, (FIRST,)], ((CONTEXT, (FIRST,)),), LEAST[CONTEXT], Table(OUTER), {("main", (((0,), (0,)), ((True,), (0,)))): (FIRST,)},
)


def small_programs(seed, many, **named):
    """Programs whose least table has few knowings."""
    maker = Maker(seed, **named)
    while many > 0:
        program = maker.program()
        try:
            table = Table(program, limit=40)
        except TooMany:
            continue
        many -= 1
        yield maker.chance, program, table


class Forms(Case):
    def test_tables(self):
        self.same([is_table(OUTER, value) for value in (LEAST, {}, {CONTEXT: (FIRST,)}, {CONTEXT: ((FIRST[0], FIRST[1][:1]),)},
                                                        dict(reversed(LEAST.items())))], [True] * 5)
        begins = OUTER.begins("p")
        knowing = first_knowing(OUTER, "p", begins[:2])
        for many in (2, 3, 4):
            self.assertIs(is_table(OUTER, {("p", begins[:many]): (knowing,)}), True)
        self.assertIs(is_table(OUTER, {("p", begins[:1]): (knowing,)}), False)

    def test_other_values(self):
        for value in NO_TABLES:
            self.assertIs(is_table(OUTER, value), False, value)
            self.assertIs(is_closed(OUTER, value), False, value)

    def test_quiet_procedures(self):
        quiet = OUTER.with_quiet("p", True)
        self.same([is_table(quiet, LEAST), is_table(quiet, {CONTEXT: (FIRST,)})], [False, True])

    def test_no_programs(self):
        for value in ODD:
            if not isinstance(value, Program):
                for call_of in (is_table, is_closed):
                    self.fails(InvalidProgram, call_of, value, LEAST)
                    self.fails(InvalidProgram, call_of, value, None)
                self.fails(InvalidProgram, Table, value)
                self.fails(InvalidProgram, Table, value, limit=None)


class Closed(Case):
    def test_least_tables_and_bent_ones(self):
        many = 0
        for chance, program, table in small_programs(31, 60, statements=7):
            least = table.as_dict()
            self.assertIs(is_closed(program, least), True)
            for other in chance.sample(list(bent(least)), min(12, len(list(bent(least))))):
                self.assertIs(is_closed(program, other), False, other)
                many += is_table(program, other)
        self.assertGreater(many, 300)

    def test_all_bent_ones_of_a_program(self):
        for program in (MIRROR, OUTER):
            for other in bent(Table(program).as_dict()):
                self.assertIs(is_closed(program, other), False, other)

    def test_greater_tables(self):
        many = 0
        for chance, program, table in small_programs(32, 60, quiet=0.2, most=3):
            least = table.as_dict()
            for name in program.names:
                begins = program.begins(name)
                if not program[name].quiet:
                    some = tuple(sorted(chance.sample(begins, chance.randint(1, len(begins))))) if name != "main" else begins
                    place = chance.randrange(len(program[name]) + 1)
                    now = (place,) + (chance.choice(begins)[0], (0,) * len(program[name].own))
                    greater = grown(program, [((name, some), (name, ((some[0], now),)))])
                    self.assertIs(is_closed(program, greater), True)
                    self.assertLessEqual(set(least), set(greater))
                    if greater != least:
                        many += 1
                        # What has been added makes more of it needed.
                        self.assertIs(is_closed(program, {**greater, **least}), self.closed(program, {**greater, **least}))
        self.assertGreater(many, 40)

    def closed(self, program, table):
        """Whether nothing more follows from a table that has the context of main."""
        return grown(program, [(context, knowing) for context in table for knowing in table[context]]) == {
            context: table[context] for context in sorted(table)}

    def test_another_programs_table(self):
        other = OUTER.with_procedure(procedure("p", ("if", "c", 1, (), (("say", "one", None),)), own=(("c", 2),)))
        self.same([is_table(other, LEAST), is_closed(other, LEAST), is_closed(OUTER, Table(other).as_dict())], [True, False, False])
        self.same([is_closed(OUTER, {}), is_closed(OUTER, {CONTEXT: (FIRST,)})], [False, False])

    def test_the_order_of_the_keys_does_not_matter(self):
        self.assertIs(is_closed(OUTER, dict(reversed(LEAST.items()))), True)

    def test_nothing_is_changed(self):
        table = Table(OUTER).as_dict()
        before = repr(table)
        is_table(OUTER, table)
        is_closed(OUTER, table)
        self.assertEqual(repr(table), before)


class Least(Case):
    def test_what_is_in_it(self):
        table = Table(OUTER)
        self.same(table.as_dict(), grown(OUTER))
        self.same([table.contexts, len(table), str(table)], [tuple(LEAST), sum(map(len, LEAST.values())), str(table)])
        for context in LEAST:
            self.same(table[context], LEAST[context])

    def test_against_tables_that_grow(self):
        for chance, program, table in small_programs(33, 120, statements=8, most=4):
            due = grown(program)
            many = sum(map(len, due.values()))
            self.same([table.as_dict(), table.contexts, len(table)], [due, tuple(due), many])
            self.assertEqual(str(table), f"table of {len(due)} contexts, {many} knowings")

    def test_against_the_oracle(self):
        sure = 0
        for seed, quiet, statements, many in ((34, 0.3, 5, 5), (35, 0.6, 7, 4), (36, 0, 4, 6)):
            for chance, program, table in small_programs(seed, 40, quiet=quiet, statements=statements):
                logs = oracle.sure_logs(program, many)
                if logs is not None:
                    sure += 1
                    self.compare(program, table, logs, many)
        self.assertGreater(sure, 110)

    def compare(self, program, table, logs, many):
        """The knowings at all logs of so few lines are there, with just their lengths, and no others so short."""
        due = {}
        for log, pairs in logs.items():
            knowing = oracle.knowing(program, pairs)
            if knowing is not None:
                key = (oracle.context(program, logs, log), knowing)
                due[key] = min(due.get(key, many), len(log))
        found = {}
        for context in table.contexts:
            for knowing in table[context]:
                length = table.log_length(context, knowing)
                if length <= many:
                    found[context, knowing] = length
                log = table.shortest_log(context, knowing)
                self.assertEqual(len(log), length)
                self.same(Watcher.along(program, log).knowing, knowing)
        self.assertEqual(found, due)

    def test_some_hundred_knowings(self):
        maker = Maker(38, statements=24, most=4, shared=({"x": 4, "y": 4}, {"x": 2, "y": 2, "z": 4}, {"x": 4}))
        many = 0
        while many < 6:
            program = maker.program()
            try:
                table = Table(program)
            except TooMany:
                continue
            if len(table) > 150:
                many += 1
                least = table.as_dict()
                self.assertIs(is_closed(program, least), True)
                for other in maker.chance.sample(list(bent(least)), 3):
                    self.assertIs(is_closed(program, other), False)
                for context in table.contexts:
                    for knowing in maker.chance.sample(table[context], min(3, len(table[context]))):
                        log = table.shortest_log(context, knowing)
                        self.assertEqual(len(log), table.log_length(context, knowing))
                        self.same(Watcher.along(program, log).knowing, knowing)

    def test_programs_that_never_end(self):
        endless = Program({"x": 2}, procedure("main", call("p")), procedure("p", ("say", "at", "x"), call("p")))
        table = Table(endless)
        self.same(table.as_dict(), grown(endless))
        self.assertTrue(all(final(endless, knowing).standings == () for context in table.contexts for knowing in table[context]))
        self.same(Table(LOST).as_dict(), grown(LOST))
        stuck = Program({}, procedure("main", call("q")), procedure("q", call("q"), quiet=True))
        self.same(str(Table(stuck)), "table of 1 contexts, 1 knowings")


class Limits(Case):
    def test_limits(self):
        many = len(Table(MIRROR))
        self.assertEqual(many, 12)
        for limit in (many, many + 1, 400):
            self.assertTrue(Table(MIRROR, limit=limit) == Table(MIRROR))
        for limit in (many - 1, 2, 1):
            self.assertEqual(self.fails(TooMany, Table, MIRROR, limit=limit).limit, limit)
        self.assertEqual(len(Table(Program({}, procedure("main", call("q")), procedure("q", call("q"), quiet=True)), limit=1)), 1)

    def test_four_hundred(self):
        self.assertEqual(MAX_KNOWINGS, 400)
        table = Table(with_knowings(0))
        self.assertEqual(len(table), 400)
        self.assertEqual(len(Table(with_knowings(-1))), 399)
        self.assertIs(is_closed(with_knowings(0), table.as_dict()), True)
        self.assertEqual(self.fails(TooMany, Table, with_knowings(1)).limit, 400)
        self.assertEqual(self.fails(TooMany, Table, with_knowings(0), limit=399).limit, 399)
        self.assertIs(is_closed(with_knowings(1), table.as_dict()), False)

    def test_no_limits(self):
        for limit in ODD + (0, 401, -1, True, False, "1", [1], HUGE):
            if repr(limit) not in ("1", "2", "3", "4"):
                self.same(self.fails(InvalidNumber, Table, MIRROR, limit=limit).value, limit)
                self.same(self.fails(InvalidNumber, Table, with_knowings(1), limit=limit).value, limit)
        with self.assertRaises(TypeError):
            Table(MIRROR, 400)


class Logs(Case):
    def test_two_thousand_lines(self):
        for more in (-1, 0, 1):
            program = with_lines(more)
            table = Table(program)
            log = straight_log(program)[:-1]
            context = main_context(program)
            knowing = Watcher.along(program, log).knowing
            self.assertEqual(table.log_length(context, knowing), 2000 + more)
            if more <= 0:
                self.assertEqual(table.shortest_log(context, knowing), log)
            else:
                self.assertEqual(self.fails(TooMany, table.shortest_log, context, knowing).limit, 2000)

    def test_lengths_of_any_size(self):
        table = Table(HUGE_LOGS)
        context = main_context(HUGE_LOGS)
        lengths = {possible(HUGE_LOGS, knowing).standings: table.log_length(context, knowing) for knowing in table[context]
                   if len(possible(HUGE_LOGS, knowing)) == 1}
        self.same(lengths, {((0,),): huge_length()})
        self.assertGreater(huge_length(), 10 ** 8)
        knowing = [one for one in table[context] if len(possible(HUGE_LOGS, one)) == 1][0]
        self.assertEqual(self.fails(TooMany, table.shortest_log, context, knowing).limit, 2000)

    def test_no_contexts_and_no_knowings(self):
        table = Table(OUTER)
        inner = [context for context in table.contexts if context[0] == "p"][0]
        for what in (table.shortest_log, table.log_length):
            for context in NO_CONTEXTS:
                self.fails(InvalidTable, what, context, FIRST)
                self.fails(InvalidTable, what, context, None)
            for knowing in ODD + (("main", ()), ("main", FIRST[1][:1]), ("q", FIRST[1]), ("main", FIRST[1][::-1]), [FIRST],
                                  ("main", (FIRST[1][0], (FIRST[1][1][0], (0, (True,), (0,))))), table[inner][0]):
                self.fails(InvalidTable, what, CONTEXT, knowing)
            self.fails(InvalidTable, what, inner, FIRST)


NO_CONTEXTS = ODD + (
    "main", ("main",), ("main", ()), ("main", CONTEXT[1][:1]), ("q", CONTEXT[1]), ("p", CONTEXT[1]), ("main", list(CONTEXT[1])),
    ["main", CONTEXT[1]], ("main", CONTEXT[1], 0), ("main", (((False,), (0,)), ((True,), (0,)))), ("main", CONTEXT[1][::-1]),
)


class Bars(Case):
    def test_bars(self):
        for chance, program, table in small_programs(37, 60):
            knowings = [knowing for context in table.contexts for knowing in table[context]]
            told = [possible(program, knowing) for knowing in knowings]
            told += [final(program, knowing) for knowing in knowings if knowing[0] == "main" and len(final(program, knowing)) > 0]
            every = Fact.every(program.shared).standings
            for _ in range(8):
                fact = Fact(program.shared, tuple(sorted(chance.sample(every, chance.randint(0, len(every))))))
                self.assertIs(table.bars(fact), not any(one.is_within(fact) for one in told))

    def test_no_and_all_standings(self):
        for program in (MIRROR, OUTER, HALF, DEEP, LOST):
            self.same([Table(program).bars(Fact(program.shared)), Table(program).bars(Fact.every(program.shared))], [True, False])

    def test_what_can_end_alone(self):
        program = Program({"x": 2}, procedure("main", call("p"), SAY, ("set", "x", (), (1,))), procedure("p", ("hide", "x")))
        self.same([Table(program).bars(Fact(program.shared, (row,))) for row in ((0,), (1,))], [True, False])
        # What ends a call of another procedure is not what can stand behind it.
        program = Program({"x": 2}, procedure("main", call("p", None, "x")), procedure("p", ("set", "x", (), (1,)), ("hide", "c"),
                                                                                         own=(("c", 2),)))
        self.same([Table(program).bars(Fact(program.shared, (row,))) for row in ((0,), (1,))], [True, True])

    def test_no_facts(self):
        table = Table(OUTER)
        for value in ODD + (((0,),), Fact({}), Fact({"n": 3}), Fact({"x": 2}, ((0,),)), Fact({"n": 2, "x": 2})):
            self.fails(InvalidFact, table.bars, value)


class Reading(Case):
    def test_items_and_in(self):
        table = Table(OUTER)
        for context in LEAST:
            self.assertIs(context in table, True)
        for value in NO_CONTEXTS:
            self.assertIs(value in table, False, value)
            self.fails(InvalidTable, lambda: table[value])

    def test_equality(self):
        table = Table(OUTER)
        self.same([table == Table(OUTER), table == Table(OUTER, limit=300), table != Table(OUTER)], [True, True, False])
        for value in ODD + (Table(MIRROR), LEAST, OUTER):
            self.same([table == value, table != value], [False, True])

    def test_copies(self):
        table = Table(OUTER)
        found = table.as_dict()
        found.clear()
        table.as_dict()[CONTEXT] = ()
        self.same([table.as_dict(), list(table.as_dict())], [LEAST, sorted(LEAST)])
        for name in ("program", "contexts"):
            with self.assertRaises(AttributeError):
                setattr(table, name, ())
        self.assertTrue(table.program == OUTER)

    def test_no_iteration(self):
        for what in (iter, list, tuple, sorted):
            with self.assertRaises(TypeError):
                what(Table(OUTER))

    def test_other_names(self):
        renamed = OUTER.renamed({"main": "a", "p": "b"})
        self.same([context[0] for context in Table(renamed).contexts], ["a", "b"])
        first = Program({}, Procedure("z", (("call", "a", None, None),)), Procedure("a", ()))
        self.same([context[0] for context in Table(first).contexts], ["a", "z"])
