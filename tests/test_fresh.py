"""Questions about programs that were just made, of which nothing is kept: what they answer and raise, and how long they take."""

import time
from unittest.mock import patch

from showncalls.base.facts import Fact
from showncalls.base.programs import Procedure, Program
from showncalls.compare.alike import alike_paper, are_alike, is_alike_paper
from showncalls.compare.more import gives_no_more, more_paper
from showncalls.compare.parts import greatest_shown
from showncalls.compare.silent import is_silent, is_silent_paper, silent_paper
from showncalls.errors import InvalidOperation, InvalidProgram, ParseError, TooMany
from showncalls.give.counts import count_known, count_logs, logs
from showncalls.give.ends import is_settled
from showncalls.give.kinds import counted, kinds_in, kinds_of, shown_by
from showncalls.give.left import Left
from showncalls.give.papers import fact_paper, is_fact_paper
from showncalls.know.knowings import ends, entered, first_knowing, joined, possible, spoken
from showncalls.know.tables import Table, is_closed, is_table
from showncalls.know.watchers import Watcher
from showncalls.text.texts import read_program, write_program
from tests import oracle
from tests.helper import DEEP, HALF, MIRROR, OUTER, Case
from tests.making import Maker, call, facts_of, procedure
from tests.test_speed import fresh

LETTERS = ("a", "b", "c", "e", "f", "g", "h")
FOUR_CELLS = {"a": 2, "b": 2, "c": 2, "d": 2}


def counting(size=4):
    return Program({"x": size}, Procedure("main", (("call", "p", None, None),)),
                   Procedure("p", (("often", (("either", (("ask", "w", "x"),), (("call", "p", None, None),)),)),)))


def asking():
    body = tuple(("ask", cell, cell) for cell in "abcdef") + (("say", "g", None), ("say", "h", None))
    return Program(FOUR_CELLS, Procedure("main", (("often", body),), own=(("e", 2), ("f", 2))))


def turning():
    turn = (("if", "m", 3, (("set", "n", ("n",), (1, 2, 3, 0)),), ()), ("set", "m", ("m",), (1, 2, 3, 0)))
    body = (("set", "m", (), (0,)), ("set", "n", (), (0,)), ("often", turn + tuple(call(name) for name in LETTERS)), ("say", "u", None))
    return Program.of({"m": 4, "n": 4}, (Procedure("main", body),) + tuple(Procedure(name, (("say", "v", None),) * 3) for name in LETTERS))


def choosing():
    told = (("a", ("a",)), ("b", ("b",)), ("c", ("c",)), ("d", ("d",)), ("e", ("a", "b")), ("f", ("b", "c")), ("g", ("c", "d")))
    body = tuple(("either", (("set", "s", cells, (0, 1) if len(cells) == 1 else (0, 1, 1, 0)), ("say", word, "s")), ()) for word, cells in told)
    return Program(FOUR_CELLS, Procedure("main", (("often", body),), own=(("s", 2),)))


def saying():
    return Program({"x": 2}, Procedure("main", (("often", (("say", "w", None),)), ("say", "w", "x"))))


def calling():
    return Program({"x": 2, "y": 2}, Procedure("main", (call("p"), ("hide", "x"), call("p"))),
                   Procedure("p", (("either", (call("p"), ("say", "u", "x")), (("set", "x", ("x",), (1, 0)), ("ask", "v", "y"))),)))


def reading():
    body = (("hide", "x"), ("ask", "w", "y"), ("set", "x", ("x", "y"), (1, 0, 1, 0, 1, 0)), ("set", "y", ("x",), (2, 1)), ("say", "at", "x"), ("say", "end", None),
            ("if", "x", 1, (call("p"), ("say", "one", "y")), (call("q", "c", "c"), ("either", (("say", "two", None), ("hide", "y")), (("set", "y", (), (2,)),)))),
            ("often", (call("q", None, "c"), ("say", "three", "x"))), call("p", "c"), ("say", "five", "y"), ("hide", "c"), ("hide", "y"))
    return Program({"x": 2, "y": 3}, *[Procedure(name, body, own=(("c", 2),)) for name in ("main", "p", "q")])


LOG = (("enter", "main"),) + (("say", "w"),) * 2500
SPLIT = ("split", LOG, ("say", "w", 1), ("say", "w"))
NO_SPLIT = ("split", LOG + (("say", "w", 1),), ("leave", "main"), ("say", "w"))


class Rows(Case):
    """Each call on a program of its own; what it answered and raised before it was made faster."""

    def too_many(self, question, *args):
        self.same(self.fails(TooMany, question, *args).limit, 400)

    def test_counts(self):
        self.same(count_logs(counting(), 40), 82875742358105503453151713780)
        self.same(count_known(counting(), Fact.where({"x": 4}, {"x": 0}), 40), 20718935589526375854332202820)
        self.same(count_logs(counting(2), 40), 13831192101711144451564)
        self.same(count_known(counting(2), Fact.where({"x": 2}, {"x": 0}), 40), 6915596050837660774532)
        # At each log all numbers are possible, or one is known; and none is known more often than another.
        for size, program in ((4, counting()), (2, counting(2)), (3, counting(3))):
            for many in (0, 1, 2, 3, 17, 39, 40):
                known = [count_known(program, Fact.where({"x": size}, {"x": number}), many) for number in range(size)]
                none = count_known(program, Fact(program.shared), many)
                self.same([known, none, count_known(program, Fact.every(program.shared), many)], [known[:1] * size, 0, count_logs(program, many)])
                self.assertLessEqual(sum(known), count_logs(program, many))
                self.same(count_logs(counting(size), many), count_logs(program, many))

    def test_too_many_knowings(self):
        self.too_many(greatest_shown, asking(), (), (Fact.every(FOUR_CELLS),))
        for question in (is_silent, Table, silent_paper, Left):
            self.too_many(question, asking())
            self.too_many(question, turning())
            self.too_many(question, choosing())
        for question in (are_alike, alike_paper):
            for make in (turning, choosing, asking):
                program = make()
                self.too_many(question, program, program)
                self.too_many(question, make(), make())
        self.too_many(count_logs, choosing(), 3)
        self.too_many(fact_paper, turning(), Fact({"m": 4, "n": 4}))
        self.too_many(is_settled, asking(), Fact.every(FOUR_CELLS))
        self.too_many(gives_no_more, saying_all(), asking())

    def test_long_logs(self):
        self.same([is_silent_paper(saying(), SPLIT), is_silent_paper(saying(), NO_SPLIT)], [True, False])
        for line in (("say", "w", 2), ("say", "w", True), ["say", "w"], ("say", ["w"]), ("leave", "main"), None, ("say", "v"), MIRROR, ("say", MIRROR), ("say",)):
            for at in (1, 1250, 2500):
                self.same(is_silent_paper(saying(), ("split", LOG[:at] + (line,) + LOG[at:], *SPLIT[2:])), False)
        self.same([is_silent_paper(saying(), ("split", log, *SPLIT[2:])) for log in (list(LOG), LOG[1:], (), None, (("enter", "p"),), ((),), LOG[:1])],
                  [False] * 6 + [True])

    def test_tables_and_papers(self):
        table = Table(calling())
        every = Fact.every({"x": 2, "y": 2})
        self.same([len(table), len(table.contexts), str(table)], [64, 4, "table of 4 contexts, 64 knowings"])
        self.same([is_closed(calling(), table.as_dict()), is_fact_paper(calling(), every, ("never", table.as_dict()))], [True, False])
        self.same(is_fact_paper(calling(), Fact({"x": 2, "y": 2}), ("never", table.as_dict())), True)
        paper = alike_paper(calling(), calling())
        self.same([paper[0], is_alike_paper(calling(), calling(), paper), sum(len(pairs) for pairs in paper[1].values())], ["alike", True, 64])
        self.assertTrue(all(one == other for pairs in paper[1].values() for one, other in pairs))
        self.same([are_alike(calling(), calling()), are_alike(calling(), MIRROR)], [True, False])

    def test_texts(self):
        text = write_program(reading())
        self.same([len(text.split("\n")), read_program(text) == reading(), write_program(read_program(text)) == text], [76, True, True])
        program = reading()
        for at in range(60):
            name = ("main", "p", "q", "r")[at % 4]
            body = reading()["p"].body[at % 5:] + (("say", "at", "x"),) * (at % 3)
            changed = program.with_procedure(Procedure(name, body, own=(("c", 2), ("d", 2))[:1 + at % 2], quiet=name != "main" and at % 5 == 0))
            text = write_program(changed)
            self.same([read_program(text) == changed, write_program(changed) == text, name in changed, changed[name].body == body], [True] * 4)
            program = changed
        self.same(len(program), 4)
        for wrong in (Procedure("p", (("say", "at", "zz"),)), Procedure("q", (call("none"),)), Procedure("p", (("set", "x", ("y",), (0, 1)),)),
                      Procedure("p", (("set", "x", (), (2,)),)), Procedure("p", (("if", "x", 2, (), ()),)), Procedure("p", (("ask", "w", "x"),)), Procedure("p", (), own=(("x", 2),)),
                      Procedure("p", ()), Procedure("p", (), own=(("c", 3),)), Procedure("main", (), quiet=True)):
            self.fails(InvalidOperation, reading().with_procedure, wrong)


def saying_all():
    return Program(FOUR_CELLS, Procedure("main", (("say", "w", None),)))


class Forms(Case):
    """Statements and their lines, where names are those words that stand in lines, too."""

    def test_names_that_are_words_of_the_text(self):
        cells = {"to": 2, "by": 2, "with": 2, "is": 2}
        body = (("set", "to", ("to", "by"), (0, 1, 1, 0)), ("set", "by", ("by", "to"), (0, 1, 1, 0)), ("set", "by", ("to",), (1, 0)), ("set", "to", (), (1,)),
                ("say", "to", "by"), ("say", "say", None), ("ask", "ask", "with"), ("hide", "is"), ("if", "is", 1, (call("gives", "with", "is"),), (call("gives", None, "with"),)),
                ("either", (call("gives", "to"),), (call("else"),)), ("often", (call("or"),)))
        program = Program(cells, Procedure("main", body), Procedure("gives", (), own=(("own", 2),)), Procedure("else", ()), Procedure("or", (), quiet=True))
        text = write_program(program)
        self.same(read_program(text) == program, True)
        for line in ("set to by to by to 0 1 1 0", "set by by to to 1 0", "set to to 1", "call gives with with gives is", "call gives gives with", "if is is 1", "hide is"):
            self.assertIn(line, [part.strip() for part in text.split("\n")])

    def test_lines_that_have_no_form(self):
        for line in ("set x by to 0", "set x by y z v to 0", "set x to", "set x to 0 y", "set x to 10", "set x y to 1", "set x by x y 0", "set to 1", "set", "set x by x to to 0 a", "call", "call p with",
                     "call p gives", "call p gives x with y", "call p with x y", "call p  with x", "call P", "if x is", "if x is 10", "if x 1", "if is 1", "hide", "hide x y", "say", "say x 1", "say x y z",
                     "ask w", "ask w 1", "either x", "often 1", "else", "or", "turn x", "", "hide x ", "say w\t", "say \u00e9", "hide \u2081", "set x to \u0661"):
            self.same(self.fails(ParseError, read_program, f"shared x 2, y 2\nprocedure main\n  {line}\n  hide x").line, 2)
        for text in ("shared y 2, x 2\nprocedure main", "shared x 2, x 2\nprocedure main", "shared x 3, x 2\nprocedure main"):
            self.fails(InvalidProgram, read_program, text)
        self.same(read_program("shared x 2, y 2\nprocedure main") == Program({"y": 2, "x": 2}, Procedure("main", ())), True)


def plain_counts(program, most, fact):
    """For so many lines and fewer: how many logs there are, and at how many of them a fact is known, counted one knowing by one."""
    inside = {}
    table = Table(program).as_dict()
    told = {knowing: (spoken(program, knowing), entered(program, knowing), ends(program, knowing)) for context in table for knowing in table[context]}
    for lines in range(most):
        for context in table:
            counts = {}
            if lines == 0:
                counts[first_knowing(program, *context)] = 1
            else:
                for knowing, many in inside[context, lines - 1].items():
                    for behind in told[knowing][0].values():
                        counts[behind] = counts.get(behind, 0) + many
            for ahead in range(lines - 1):
                for knowing, many in inside[context, ahead].items():
                    for name, (kept, begins) in told[knowing][1].items():
                        for inner, times in inside[(name, begins), lines - ahead - 2].items():
                            if told[inner][2]:
                                behind = joined(program, kept, name, told[inner][2])
                                counts[behind] = counts.get(behind, 0) + many * times
            inside[context, lines] = counts

    def wanted(context, lines, is_wanted):
        found = sum(many for knowing, many in inside[context, lines].items() if is_wanted(possible(program, knowing)))
        for ahead in range(lines):
            for knowing, many in inside[context, ahead].items():
                for name, (_, begins) in told[knowing][1].items():
                    found += many * wanted_once((name, begins), lines - ahead - 1, is_wanted)
        if context == main and lines > 0:
            for knowing, many in inside[context, lines - 1].items():
                rows = tuple(sorted({end[0] for begin, end in told[knowing][2]}))
                found += many if rows and is_wanted(Fact(program.shared, rows)) else 0
        return found

    def wanted_once(context, lines, is_wanted):
        key = (context, lines, is_wanted)
        if key not in kept_answers:
            kept_answers[key] = wanted(context, lines, is_wanted)
        return kept_answers[key]

    kept_answers = {}
    main = (program.main, program.begins(program.main))
    every, sure = (lambda standing: True), (lambda standing: standing.is_within(fact))
    return [(0, 0)] + [(wanted_once(main, many, every), wanted_once(main, many, sure)) for many in range(most)]


class Kinds(Case):
    def test_counts_one_by_one(self):
        great = 0
        for seed in range(90):
            maker = Maker(seed + 8100, statements=6, quiet=0.2, shared=({"x": 2}, {"x": 2, "y": 2}, {"x": 3}))
            program = maker.program()
            if len(Table(program)) > 20:
                continue
            fact = maker.chance.choice(list(facts_of(program)))
            due = plain_counts(program, 15, fact)
            order = list(range(16))
            maker.chance.shuffle(order)
            # In any order, of one program and of new ones.
            for many in order:
                self.same((count_logs(program, many), count_known(program, fact, many)), due[many])
            self.same((count_logs(fresh(program), 15), count_known(fresh(program), fact, 15)), due[15])
            great += due[15][0] > 1000
        self.assertGreater(great, 2)

    def test_the_coarsest_kinds(self):
        self.same(kinds_of({one: 0 for one in "abc"}, lambda one, kinds: ()), {"a": 0, "b": 0, "c": 0})
        self.same(kinds_of({}, lambda one, kinds: ()), {})
        self.same(kinds_of({"a": "x", "b": "y", "c": "x"}, lambda one, kinds: ()), {"a": 0, "b": 1, "c": 0})
        # A row of ones, each of which tells the next one: all are told apart by the last one.
        following = {at: min(at + 1, 9) for at in range(10)}
        self.same(kinds_of({at: int(at == 9) for at in following}, lambda at, kinds: (kinds[following[at]],)), {at: at for at in range(10)})
        # Two rings of one length are alike.
        ring = {0: 1, 1: 2, 2: 0, 3: 4, 4: 5, 5: 3}
        self.same(kinds_of({at: int(at in (0, 3)) for at in ring}, lambda at, kinds: (kinds[ring[at]],)), {0: 0, 1: 1, 2: 2, 3: 0, 4: 1, 5: 2})
        self.same([kinds_in(["b", "a", "b"], {"a": 0, "b": 1}), kinds_in(["a"], {"a": 3}), kinds_in([], {})], [(0, 1, 1), (3,), ()])
        self.same([shown_by({"a": 1, "b": 0, "c": 1}), counted([2, 1, 2])], [["b", "a"], {2: 2, 1: 1}])


class LittleRoom(Case):
    def test_logs_and_watchers_that_go_from_mind_to_mind(self):
        for seed in range(25):
            maker = Maker(seed + 8300, statements=7, quiet=0.3)
            program = maker.program()
            due = list(logs(program, 6))[:200]
            told = [(Watcher.along(program, log).knowing, Watcher.along(program, log).lines(), Watcher.along(program, log).can_stand) for log in due]
            with patch("showncalls.know.minds.MOST_KEPT", 3), patch("showncalls.know.watchers.MOST_KEPT", 3), patch("showncalls.give.counts.MOST_KEPT", 3):
                other = fresh(program)
                found = []
                for log in logs(other, 6):
                    found.append(log)
                    Table(fresh(other)), Table(other)
                    if len(found) == 200:
                        break
                self.assertEqual(found, due)
                watcher = Watcher(other)
                for log, (knowing, lines, can_stand) in zip(due, told):
                    common = next((at for at, (one, line) in enumerate(zip(watcher.log, log)) if one != line), min(len(watcher), len(log)))
                    watcher.back(many=len(watcher) - common)
                    with watcher.trial():
                        for line in log[common:]:
                            watcher.see(line)
                        self.assertEqual((watcher.log, watcher.knowing, watcher.lines(), watcher.can_stand), (log, knowing, lines, can_stand))
                    twin = watcher.twin()
                    for line in log[common:]:
                        watcher(line)
                    self.assertEqual((watcher.knowing, watcher.lines(), watcher.can_stand, len(twin)), (knowing, lines, can_stand, common))

    def test_few_masks_of_ends(self):
        for seed in range(15):
            program = Maker(seed + 8400, statements=8, quiet=0.6).program()
            with patch("showncalls.know.tracks.MOST_BEHIND", 2):
                other = fresh(program)
                self.assertEqual(Table(other).as_dict(), Table(program).as_dict())
                self.same([is_silent(other), [count_logs(other, many) for many in range(6)]], [is_silent(program), [count_logs(program, many) for many in range(6)]])


class Places(Case):
    def test_places_that_some_states_alone_come_to(self):
        """Where x is 0, the quiet call at the head of the loop is never left; behind the ask one may be there with x 0, too."""
        ring = Procedure("r", (("if", "x", 1, (), (call("r"),)),), quiet=True)
        for last in (("say", "b", None), ("say", "b", "x"), call("p"), ("set", "x", ("x",), (1, 0))):
            body = ("often", (call("r"), ("either", (("ask", "w", "x"),), ()), ("either", (last,), ())))
            program = Program({"x": 2}, procedure("main", body, ("say", "end", None)), procedure("p", ("say", "c", None)), ring)
            found = oracle.sure_logs(program, 5)
            other = fresh(program)
            self.assertEqual(sorted(log for many in range(6) for log in logs(other, many)), sorted(found))
            for log in found:
                self.assertEqual(set(Watcher.along(other, log).can_stand.standings), set(oracle.standings(found[log])))
            # Each place as the first one that is asked about.
            for place in range(len(program["main"]) + 1):
                for begin in program.begins("main"):
                    one = ("main", ((begin, (place,) + begin),))
                    other, third = fresh(program), fresh(program)
                    spoken(third, first_knowing(third, "main", third.begins("main")))
                    self.assertEqual((spoken(other, one), entered(other, one), ends(other, one)), (spoken(third, one), entered(third, one), ends(third, one)))

    def test_places_in_any_order(self):
        """What comes next at a now does not rest on the places that were asked about before."""
        for seed in range(40):
            maker = Maker(seed + 8600, statements=9, quiet=0.3)
            program = maker.program()
            heard = [name for name in program.names if not program[name].quiet]
            asked = [(name, ((begin, (place,) + state),)) for name in heard for begin in program.begins(name)[:2] for place in range(len(program[name]) + 1)
                     for state in program.begins(name)[:3]]
            due = {one: (spoken(fresh(program), one), entered(fresh(program), one), ends(fresh(program), one)) for one in asked}
            for _ in range(2):
                maker.chance.shuffle(asked)
                other = fresh(program)
                for one in asked:
                    self.assertEqual((spoken(other, one), entered(other, one), ends(other, one)), due[one])


class Limits(Case):
    def test_just_as_many_as_there_are(self):
        for seed in range(60):
            program = Maker(seed + 8700, statements=6, quiet=0.2).program()
            many = len(Table(program))
            self.same([len(Table(fresh(program), limit=many)), len(Table(fresh(program)))], [many, many])
            if many > 1:
                self.same(self.fails(TooMany, Table, fresh(program), limit=many - 1).limit, many - 1)

    def test_knowings_of_another_procedure(self):
        body = (("say", "w", "x"), ("say", "v", None))
        program = Program({"x": 2}, procedure("main", call("p"), call("q")), Procedure("p", body), Procedure("q", body))
        table = Table(program).as_dict()
        self.same(is_table(program, table), True)
        for context in table:
            for name in ("p", "q", "main", "r", None):
                for at, knowing in enumerate(table[context]):
                    bent = {**table, context: table[context][:at] + ((name, knowing[1]),) + table[context][at + 1:]}
                    self.same([is_table(program, bent), is_closed(program, bent)], [name == context[0]] * 2)
            self.same(is_table(program, {(("p" if context[0] == "q" else "q"), context[1]): table[context]}), False)


class Same(Case):
    def test_equal_programs_are_alike(self):
        """Equal programs share a mind; others do not."""
        for seed in range(30):
            program = Maker(seed + 8500, statements=6).program()
            one, other = fresh(program), fresh(program)
            paper = alike_paper(one, other)
            table = Table(program).as_dict()
            self.same(paper, ("alike", {(name, begins, begins): tuple((knowing, knowing) for knowing in table[name, begins]) for name, begins in table}))
            self.same([is_alike_paper(fresh(program), other, paper), are_alike(one, one)], [True, True])
            self.same(more_paper(one, other)[0], "no more")


class Times(Case):
    """The time of one call on a program that was just made, printed for each row. They fail only if one takes four times what it took
    before it was made faster: machines differ, and have other things to do."""

    def test_each_row(self):
        table = Table(calling()).as_dict()
        every = Fact.every({"x": 2, "y": 2})
        text = write_program(reading())
        other = Procedure("p", (("say", "at", "x"),) * 20, own=(("c", 2),))
        rows = (
            ("count_logs, 4", 42, counting, lambda program: count_logs(program, 40)),
            ("count_known, 4", 42, counting, lambda program: count_known(program, Fact.where({"x": 4}, {"x": 0}), 40)),
            ("count_logs, 2", 8, lambda: counting(2), lambda program: count_logs(program, 40)),
            ("count_known, 2", 8, lambda: counting(2), lambda program: count_known(program, Fact.where({"x": 2}, {"x": 0}), 40)),
            ("greatest_shown", 12, asking, lambda program: self.too_many(greatest_shown, program, (), (Fact.every(FOUR_CELLS),))),
            ("is_silent, asks", 12, asking, lambda program: self.too_many(is_silent, program)),
            ("Table, asks", 12, asking, lambda program: self.too_many(Table, program)),
            ("are_alike, calls", 14, turning, lambda program: self.too_many(are_alike, program, program)),
            ("alike_paper, calls", 12, turning, lambda program: self.too_many(alike_paper, program, program)),
            ("Table, calls", 7, turning, lambda program: self.too_many(Table, program)),
            ("is_silent, says", 7.5, choosing, lambda program: self.too_many(is_silent, program)),
            ("silent_paper, says", 7.5, choosing, lambda program: self.too_many(silent_paper, program)),
            ("is_silent_paper, split", 10, saying, lambda program: is_silent_paper(program, SPLIT)),
            ("is_silent_paper, none", 10, saying, lambda program: is_silent_paper(program, NO_SPLIT)),
            ("Table, 64", 2, calling, Table),
            ("alike_paper, 64", 4, lambda: (calling(), calling()), lambda both: alike_paper(*both)),
            ("is_fact_paper, 64", 0.7, calling, lambda program: is_fact_paper(program, every, ("never", table))),
            ("read_program", 1.1, lambda: text, read_program),
            ("write_program", 0.2, reading, write_program),
            ("with_procedure", 0.2, reading, lambda program: program.with_procedure(other)),
        )
        print()
        for name, took, make, question in rows:
            best = None
            for _ in range(7):
                asked = make()
                start = time.perf_counter()
                question(asked)
                one = (time.perf_counter() - start) * 1000
                best = one if best is None else min(best, one)
            print(f"{name:22} {best:.3f} ms of {took}")
            self.assertLess(best, 4 * took, name)

    def too_many(self, question, *args):
        try:
            question(*args)
        except TooMany:
            return
        self.fail("there are not too many")


class Programs(Case):
    def test_what_is_asked_first(self):
        """What a program keeps about itself is made when it is asked for, in any order."""
        questions = (
            lambda program: program.statement("main", 0), lambda program: program.behind("main", 0), lambda program: program.begins("main"),
            lambda program: str(Table(program)), lambda program: Watcher(program).lines(), lambda program: [fact.standings for fact in Left(program).sets],
            lambda program: write_program(program), lambda program: is_silent(program), lambda program: count_logs(program, 5), lambda program: len(program["main"]),
        )
        for program in (MIRROR, DEEP, OUTER, HALF):
            due = [repr(question(fresh(program))) for question in questions]
            for turn in range(len(questions)):
                used = fresh(program)
                order = list(range(turn, len(questions))) + list(range(turn))
                self.same([repr(questions[at](used)) for at in order], [due[at] for at in order])
