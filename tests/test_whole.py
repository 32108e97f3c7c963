"""[0.17] to [0.25]: what the document promises over the whole program. The parts tell one and the same."""

from showncalls.base.facts import Fact
from showncalls.base.programs import Procedure, Program
from showncalls.compare.alike import alike_paper, are_alike, is_alike_paper
from showncalls.compare.more import gives_no_more, is_more_paper, more_paper
from showncalls.compare.parts import cut_log, parts_of, without_parts
from showncalls.compare.silent import is_silent, is_silent_paper, is_stuck_run, silent_paper
from showncalls.give.counts import count_known, count_logs, logs
from showncalls.give.ends import is_settled, is_settled_paper, settled_classes, settled_paper
from showncalls.give.left import Left
from showncalls.give.papers import fact_paper, is_fact_paper
from showncalls.know.knowings import ends, final, possible
from showncalls.know.tables import Table, is_closed
from showncalls.know.watchers import Watcher, is_log_of
from showncalls.run.runs import Run
from showncalls.text.texts import read_program, write_log, write_program
from tests import oracle
from tests.helper import DEEP, HALF, MIRROR, OUTER, Case
from tests.making import Maker, changed, facts_of

LINES = 6


def programs(first, many, **named):
    for seed in range(first, first + many):
        maker = Maker(seed, **{"statements": 6, "shared": ({"x": 2}, {"x": 2, "y": 2}, {"x": 3}), **named})
        yield maker.chance, maker.program()


def written_otherwise(chance, program):
    """The same program with a statement put into another one in which it does the same."""
    name = chance.choice(program.names)
    old = program[name]
    at = chance.randrange(len(old.body))
    part = old.body[at]
    other = chance.choice([("either", (part,), (part,)), ("either", (("either", (), ()), part), (part,)), ("if", sorted(program.cells_of(name))[0], 0, (part,), (part,))])
    try:
        return program.with_procedure(Procedure(name, old.body[:at] + (other,) + old.body[at + 1:], own=old.own, quiet=old.quiet))
    except ValueError:
        return program


class OneAndTheSame(Case):
    def test_tables_left_sets_and_watchers(self):
        for _, program in [(None, one) for one in (MIRROR, DEEP, OUTER, HALF)] + list(programs(6000, 50)):
            table = Table(program)
            self.assertIs(is_closed(program, table.as_dict()), True)
            stand, ended = set(), set()
            for context in table.contexts:
                for knowing in table[context]:
                    stand.add(possible(program, knowing).standings)
                    log = table.shortest_log(context, knowing)
                    watcher = Watcher.along(program, log)
                    self.same([watcher.knowing, watcher.can_stand.standings, len(log)], [knowing, possible(program, knowing).standings, table.log_length(context, knowing)])
                    if context[0] == program.main and ends(program, knowing):
                        ended.add(final(program, knowing).standings)
            left = Left(program)
            every = sorted(stand | ended)
            least = [one for one in every if not any(set(other) < set(one) for other in every)]
            self.same([[fact.standings for fact in left.sets], [fact.standings for fact in left.end_sets]], [least, sorted(ended)])
            self.same(left.fewest, min(map(len, every)))

    def test_facts(self):
        for chance, program in programs(6100, 50):
            left, table = Left(program), Table(program)
            for fact in chance.sample(list(facts_of(program)), 4):
                known = fact in left
                paper = fact_paper(program, fact)
                self.same([paper[0] == "known", table.bars(fact), is_fact_paper(program, fact, paper)], [known, not known, True])
                length = left.length_for(fact)
                for many in range(LINES + 1):
                    sure = count_known(program, fact, many)
                    self.assertIs(sure > 0, any(Watcher.along(program, log).knows(fact) for log in logs(program, many)) if count_logs(program, many) < 300 else sure > 0)
                    if sure:
                        self.assertTrue(known and length <= many)
                if known and length <= LINES:
                    self.assertGreater(count_known(program, fact, length), 0)
                settled = all(end.is_within(fact) or end.is_within(~fact) for end in left.end_sets)
                self.same([is_settled(program, fact), settled_paper(program, fact)[0] == "settled"], [settled, settled])
                other = settled_paper(program, fact)
                self.same([is_settled_paper(program, fact, other), is_fact_paper(program, fact, other), is_settled_paper(program, fact, paper)], [True, False, False])

    def test_facts_of_more_facts(self):
        for chance, program in programs(6200, 40):
            left = Left(program)
            for _ in range(6):
                one, other = chance.sample(list(facts_of(program)), 2)
                if one in left:
                    self.assertIn(one | other, left)
                if one & other in left:
                    self.assertTrue(one in left and other in left)
                if is_settled(program, one) and is_settled(program, other):
                    for fact in (one & other, one | other, one - other, ~one):
                        self.assertIs(is_settled(program, fact), True)

    def test_counts_and_logs(self):
        for _, program in programs(6300, 40, statements=5):
            found = oracle.sure_logs(program, 5)
            for many in range(6 if found is not None else 0):
                due = sorted(log for log in found if len(log) == many)
                self.same([list(logs(program, many)), count_logs(program, many)], [due, len(due)])
                for log in due[:20]:
                    watcher = Watcher.along(program, log)
                    self.same([watcher.can_stand.standings, watcher.knowing], [oracle.standings(found[log]), oracle.knowing(program, found[log])])
                    longer = {other[:-1] for other in found if other[:many] == log and len(other) == many + 1}
                    self.assertIs(bool(watcher.lines()), bool(longer) or many == 5 and bool(watcher.lines()))

    def test_silence(self):
        for chance, program in programs(6400, 120, quiet=0.7):
            silent = is_silent(program)
            paper = silent_paper(program)
            self.same([paper[0] == "silent", is_silent_paper(program, paper)], [silent, True])
            if paper[0] == "stuck":
                run = Run.of(program, *paper[1])
                self.same([is_stuck_run(program, *paper[1]), is_log_of(program, run.log)], [True, True])
            if silent:
                for many in range(5):
                    for log in list(logs(program, many))[:10]:
                        lines = Watcher.along(program, log).lines()
                        self.assertIs(bool(lines) and not oracle.is_split(lines), log[-1] != ("leave", "main"))

    def test_two_programs(self):
        for chance, one in programs(6600, 70):
            other = changed(chance, one)
            if other.shared == one.shared:
                paper = more_paper(one, other)
                self.same([paper[0] == "no more", is_more_paper(one, other, paper)], [gives_no_more(one, other)] + [True])
                self.assertIs(gives_no_more(one, other), all(fact in Left(other) for fact in Left(one).sets))
            paper = alike_paper(one, other)
            self.same([paper[0] == "alike", is_alike_paper(one, other, paper)], [are_alike(one, other), True])
            if are_alike(one, other):
                for many in (1, 3, 5, 30):
                    self.same(count_logs(one, many), count_logs(other, many))
                self.same([list(logs(one, 4)), is_silent(one) or has_stuck(one)], [list(logs(other, 4)), is_silent(other) or has_stuck(other)])
            else:
                self.assertNotEqual(is_log_of(one, paper[1]), is_log_of(other, paper[1]))


def has_stuck(program):
    """Whether a program is not silent for its stuck runs alone."""
    return silent_paper(program)[0] == "stuck"


class WrittenOtherwise(Case):
    def same_known(self, one, other, papers=True):
        self.assertEqual([fact.standings for fact in Left(one).sets], [fact.standings for fact in Left(other).sets])
        self.assertEqual([fact.standings for fact in Left(one).end_sets], [fact.standings for fact in Left(other).end_sets])
        self.assertEqual([fact.standings for fact in settled_classes(one)], [fact.standings for fact in settled_classes(other)])
        self.same([gives_no_more(one, other), gives_no_more(other, one), is_silent(one)], [True, True, is_silent(other)])
        self.same([count_logs(one, many) for many in range(12)], [count_logs(other, many) for many in range(12)])
        for fact in list(facts_of(one))[:6]:
            self.same([Left(one).length_for(fact), Left(one).length_for(fact, at_end=True)], [Left(other).length_for(fact), Left(other).length_for(fact, at_end=True)])
            self.same([fact_paper(one, fact)[0], settled_paper(one, fact)[0]], [fact_paper(other, fact)[0], settled_paper(other, fact)[0]])

    def test_statements(self):
        for chance, program in programs(6800, 60, depth=2):
            other = written_otherwise(chance, program)
            self.assertIs(are_alike(program, other), True)
            self.same_known(program, other)

    def test_names_of_procedures(self):
        for chance, program in programs(6900, 40, most=4):
            names = dict(zip(program.names, chance.sample(["main", "p", "q", "r", "s", "start"], len(program))))
            other = program.renamed(names)
            self.same_known(program, other)
            self.assertIs(are_alike(program, other), other == program or all(program[name].quiet or names[name] == name or not called(program, name) for name in program.names))
            for log in list(logs(program, 4))[:10]:
                renamed = tuple((line[0], names[line[1]]) if line[0] in ("enter", "leave") else line for line in log)
                self.same([is_log_of(other, renamed), Watcher.along(other, renamed).can_stand.standings], [True, Watcher.along(program, log).can_stand.standings])
            self.assertEqual(other.renamed({names[name]: name for name in names}), program)

    def test_the_order_of_procedures(self):
        for chance, program in programs(7000, 40, most=4):
            rest = list(program.procedures[1:])
            chance.shuffle(rest)
            other = Program.of(program.shared, (program.procedures[0], *rest))
            self.assertIs(are_alike(program, other), True)
            self.same_known(program, other)
            self.same([Table(program).as_dict(), list(logs(program, 4))], [Table(other).as_dict(), list(logs(other, 4))])

    def test_texts(self):
        for chance, program in programs(7100, 40, most=4):
            other = read_program(write_program(program))
            self.assertEqual(other, program)
            self.same_known(program, other)
            for log in list(logs(program, 4))[:5]:
                self.assertEqual(write_log(log).split("\n")[0], "enter main")


def called(program, name):
    """Whether a line tells of a procedure."""
    return any(name == context[0] for context in Table(program).contexts)


class LessShown(Case):
    def test_no_more_can_be_known(self):
        for chance, program in programs(7200, 60, statements=7):
            for part in parts_of(program):
                lesser = without_parts(program, (part,))
                paper = more_paper(lesser, program)
                self.same([gives_no_more(lesser, program), paper[0], is_more_paper(lesser, program, paper)], [True, "no more", True])
                for fact in Left(lesser).sets:
                    self.assertIn(fact, Left(program))
                    self.same(is_fact_paper(program, fact, fact_paper(program, fact)), True)

    def test_cut_logs_are_logs_of_the_lesser_program(self):
        for chance, program in programs(7300, 40):
            for part in parts_of(program):
                lesser = without_parts(program, (part,))
                for many in range(2, 6):
                    for log in list(logs(program, many))[:15]:
                        cut = cut_log(program, (part,), log)
                        self.assertIs(is_log_of(lesser, cut), True)
                        if len(cut) > len(cut_log(program, (part,), log[:-1])):
                            self.assertIs(Watcher.along(program, log).can_stand.is_within(Watcher.along(lesser, cut).can_stand), True)


class Kinds(Case):
    def test_no_paper_is_one_of_another_kind(self):
        for chance, program in programs(7400, 30):
            fact = chance.choice(list(facts_of(program)))
            other = changed(chance, program)
            told = [fact_paper(program, fact), settled_paper(program, fact), silent_paper(program), alike_paper(program, other)]
            told += [more_paper(program, other)] if program.shared == other.shared else []
            for at, paper in enumerate(told):
                judged = [is_fact_paper(program, fact, paper), is_settled_paper(program, fact, paper), is_silent_paper(program, paper), is_alike_paper(program, other, paper)]
                judged += [is_more_paper(program, other, paper)] if program.shared == other.shared else []
                self.same(judged, [at == index for index in range(len(told))])
            every = Fact.every(program.shared)
            self.same([is_fact_paper(program, every, ("known", (("enter", "main"),))), is_settled_paper(program, every, ("settled", Table(program).as_dict()))], [True, True])
