"""[0.19], [0.20], [0.24], [0.25], and the section of left sets."""

from showncalls.base.facts import Fact
from showncalls.base.programs import Program
from showncalls.errors import InvalidFact, InvalidOperation, InvalidProgram, TooMany, UnknownName
from showncalls.give.left import Left
from showncalls.know.watchers import Watcher
from tests import oracle
from tests.helper import DEEP, HALF, MIRROR, ODD, OUTER, Case
from tests.making import HUGE_LOGS, SAY, Maker, call, huge_length, procedure, straight_log, with_knowings, with_lines

MAIN = ("enter", "main")
NO_FACTS = ODD + (((0,),), Fact({}), Fact({"n": 3}), Fact({"x": 2}, ((0,),)), Fact({"n": 2, "x": 2}))
ENDLESS = Program({"x": 2}, procedure("main", ("set", "x", (), (1,)), call("p")), procedure("p", SAY, call("p")))


def facts(program):
    """All facts over the shared cells of a program."""
    every = Fact.every(program.shared).standings
    for bits in range(2 ** len(every)):
        yield Fact(program.shared, tuple(row for at, row in enumerate(every) if bits >> at & 1))


def told(facts_told):
    return [fact.standings for fact in facts_told]


class Sets(Case):
    def test_the_documents_programs(self):
        self.same(told(Left(MIRROR).sets), [((0,),), ((1,),)])
        self.same(told(Left(DEEP).sets), [((0, 0), (0, 1)), ((1, 0), (1, 1)), ((2, 0), (2, 1)), ((3, 0),), ((3, 1),)])
        self.same(told(Left(HALF).sets), [((0, 0),), ((0, 1),), ((1, 0),), ((1, 1),)])
        self.same(told(Left(OUTER).sets), [((0,),), ((1,),)])
        self.same([told(Left(OUTER).end_sets), Left(OUTER).fewest], [[((0,),), ((1,),)], 1])
        self.same([told(Left(DEEP).end_sets), Left(DEEP).fewest], [[((3, 0),), ((3, 1),)], 1])
        # Behind a say the number turns with each leave, so main can end with both.
        self.same(told(Left(MIRROR).end_sets), [((0,),), ((1,),)])

    def test_standings_that_lie_in_no_left_set(self):
        program = Program({"x": 3}, procedure("main", ("if", "x", 2, (), (("say", "at", "x"),))))
        self.same([told(Left(program).sets), told(Left(program).end_sets)],
                  [[((0,),), ((1,),), ((2,),)], [((0,),), ((1,),), ((2,),)]])
        program = Program({"x": 3}, procedure("main", ("if", "x", 2, (("hide", "x"),), (("say", "at", "x"),))))
        self.same(told(Left(program).sets), [((0,),), ((1,),)])
        self.same(told(Left(program).end_sets), [((0,),), ((0,), (1,), (2,)), ((1,),)])

    def test_a_left_set_that_is_known_at_the_end_alone(self):
        program = Program({"x": 2}, procedure("main", SAY, ("set", "x", (), (1,))))
        self.same([told(Left(program).sets), told(Left(program).end_sets)], [[((1,),)], [((1,),)]])

    def test_the_fewest(self):
        self.same([Left(program).fewest for program in (MIRROR, HALF)], [1, 1])
        program = Program({"x": 4}, procedure("main", ("if", "x", 0, (("say", "a", None),), ())))
        self.same(Left(program).fewest, 1)
        program = Program({"x": 4}, procedure("main", ("hide", "x")))
        self.same([Left(program).fewest, told(Left(program).sets)], [4, [((0,), (1,), (2,), (3,))]])
        self.same([Left(Program({}, procedure("main"))).fewest, told(Left(Program({}, procedure("main"))).sets)], [1, [((),)]])

    def test_programs_that_never_end(self):
        left = Left(ENDLESS)
        self.same([left.end_sets, told(left.sets)], [(), [((1,),)]])
        for fact in facts(ENDLESS):
            self.same([left.length_for(fact, at_end=True), left.log_for(fact, at_end=True)], [None, None])
        self.same(left.log_for(Fact(ENDLESS.shared, ((1,),))), (MAIN, ("enter", "p")))

    def test_numbers(self):
        self.same([Left(DEEP).numbers("c"), Left(DEEP).numbers("x")], [((0,), (1,), (2,), (3,)), ((0,), (1,))])
        program = Program({"x": 3, "y": 2}, procedure("main", ("either", (("set", "x", (), (0,)), ("say", "a", None)), (
            ("if", "x", 0, (), (("say", "b", None),)),))))
        self.same([Left(program).numbers("x"), Left(program).numbers("y")], [((0,), (1, 2)), ((0, 1),)])
        for name in ODD + ("n", "s", "main", "a", ["x"], ("x",)):
            self.same(self.fails(UnknownName, Left(HALF).numbers, name).name, name)


class Lengths(Case):
    def test_logs(self):
        left = Left(OUTER)
        zero, one = Fact(OUTER.shared, ((0,),)), Fact(OUTER.shared, ((1,),))
        log = (MAIN, ("enter", "p"), ("say", "one"), ("leave", "p"), ("say", "end"))
        self.same([left.length_for(one), left.log_for(one)], [5, log])
        self.same([left.length_for(one, at_end=True), left.log_for(one, at_end=True)], [6, log + (("leave", "main"),)])
        self.same([left.length_for(zero), left.length_for(zero, at_end=True)], [4, 5])
        every = Fact.every(OUTER.shared)
        self.same([left.length_for(every), left.log_for(every), left.length_for(every, at_end=True)], [1, (MAIN,), 5])
        none = Fact(OUTER.shared)
        self.same([left.length_for(none), left.log_for(none), left.length_for(none, at_end=True)], [None, None, None])

    def test_the_end_is_the_shortest(self):
        program = Program({"x": 2}, procedure("main", SAY, ("set", "x", (), (1,))))
        fact = Fact(program.shared, ((1,),))
        for at_end in (False, True):
            self.same([Left(program).length_for(fact, at_end=at_end), Left(program).log_for(fact, at_end=at_end)],
                      [3, (MAIN, ("say", "w"), ("leave", "main"))])

    def test_a_way_that_is_short_within_its_call_alone(self):
        told = ("set", "x", (), (1,))
        program = Program(
            {"x": 2}, procedure("main", ("either", (SAY, SAY, told, SAY), (call("p"),))), procedure("p", call("q")),
            procedure("q", call("r")), procedure("r", told, ("say", "z", None), ("often", ())),
        )
        self.same(Left(program).log_for(Fact(program.shared, ((1,),))), (MAIN,) + (("say", "w"),) * 3)

    def test_two_thousand_lines(self):
        for more in (-1, 0, 1):
            program = with_lines(more)
            left, fact, log = Left(program), Fact(program.shared, ((1,),)), straight_log(program)
            self.same([left.length_for(fact), left.length_for(fact, at_end=True)], [2000 + more, 2001 + more])
            for at_end, due in ((False, log[:-1]), (True, log)):
                if len(due) <= 2000:
                    self.assertEqual(left.log_for(fact, at_end=at_end), due)
                else:
                    self.assertEqual(self.fails(TooMany, left.log_for, fact, at_end=at_end).limit, 2000)

    def test_lengths_of_any_size(self):
        left, fact = Left(HUGE_LOGS), Fact(HUGE_LOGS.shared, ((0,),))
        self.same([left.length_for(fact), left.length_for(fact, at_end=True)], [huge_length(), huge_length() + 1])
        for at_end in (False, True):
            self.assertEqual(self.fails(TooMany, left.log_for, fact, at_end=at_end).limit, 2000)
        self.same([left.length_for(~fact), left.log_for(~fact), fact in left, ~fact in left], [None, None, True, False])

    def test_no_facts(self):
        left = Left(OUTER)
        for value in NO_FACTS:
            for what in (left.length_for, left.log_for):
                self.fails(InvalidFact, what, value)
                self.fails(InvalidFact, what, value, at_end=None)

    def test_no_booleans(self):
        left = Left(with_lines(1))
        for value in ODD + (0, 1, "True", [True], (True,)):
            if value is not True and value is not False:
                for what in (left.length_for, left.log_for):
                    self.fails(InvalidOperation, what, Fact({"x": 2}, ((1,),)), at_end=value)
        with self.assertRaises(TypeError):
            left.length_for(Fact({"x": 2}), True)


class Reading(Case):
    def test_in(self):
        left = Left(DEEP)
        for fact in facts(DEEP):
            self.assertIs(fact in left, any(one.is_within(fact) for one in left.sets))
        for value in ODD + (((3, 0),), Fact({"x": 2}, ((0,),)), Fact({"c": 4, "y": 2}), Fact.every({"c": 2, "x": 2})):
            self.assertIs(value in left, False)

    def test_equality_and_text(self):
        left = Left(OUTER)
        self.same([left == Left(OUTER), left != Left(OUTER), len(left), str(left)], [True, False, 2, "2 left sets"])
        self.assertTrue(left.program == OUTER)
        for value in ODD + (Left(MIRROR), OUTER, left.sets):
            self.same([left == value, left != value], [False, True])
        for name in ("program", "sets", "end_sets", "fewest"):
            with self.assertRaises(AttributeError):
                setattr(left, name, ())
        for what in (iter, list, tuple):
            with self.assertRaises(TypeError):
                what(left)

    def test_no_programs(self):
        for value in ODD:
            if not isinstance(value, Program):
                self.fails(InvalidProgram, Left, value)

    def test_four_hundred(self):
        for more in (-1, 0):
            self.assertEqual(Left(with_knowings(more)).fewest, 1)
        self.assertEqual(self.fails(TooMany, Left, with_knowings(1)).limit, 400)


class AgainstTheOracle(Case):
    def test_programs_of_many_kinds(self):
        sure = 0
        for seed, quiet, statements, many in ((41, 0.3, 5, 5), (42, 0.6, 7, 4), (43, 0, 4, 6), (44, 0.9, 8, 5)):
            maker = Maker(seed, quiet=quiet, statements=statements)
            for _ in range(40):
                program = maker.program()
                logs = oracle.sure_logs(program, many)
                if logs is not None:
                    sure += 1
                    self.compare(maker.chance, program, logs, many)
        self.assertGreater(sure, 140)

    def compare(self, chance, program, logs, many):
        left = Left(program)
        shown = [(oracle.standings(pairs), len(log), log[-1] == ("leave", "main")) for log, pairs in logs.items()]
        every = Fact.every(program.shared).standings
        chosen = [Fact(program.shared, tuple(sorted(chance.sample(every, chance.randint(0, len(every)))))) for _ in range(6)]
        for fact in chosen + list(left.sets) + list(left.end_sets):
            for at_end in (False, True):
                lengths = [length for row, length, ended in shown if set(row) <= set(fact.standings) and (ended or not at_end)]
                length = left.length_for(fact, at_end=at_end)
                if lengths:
                    self.assertEqual(length, min(lengths))
                else:
                    self.assertTrue(length is None or length > many)
                log = left.log_for(fact, at_end=at_end)
                self.assertEqual(log is None, length is None)
                if log is not None:
                    self.assertEqual(len(log), length)
                    self.assertTrue(Watcher.along(program, log).knows(fact))
                    self.assertTrue(log[-1] == ("leave", "main") or not at_end)
            self.assertIs(fact in left, left.length_for(fact) is not None)
        self.check_sets(left, shown)

    def check_sets(self, left, shown):
        """What can stand at logs of few lines is told, and the left sets are least ones."""
        sets, end_sets = told(left.sets), told(left.end_sets)
        self.assertEqual([sets, end_sets], [sorted(sets), sorted(end_sets)])
        for row, length, ended in shown:
            self.assertTrue(any(set(one) <= set(row) for one in sets))
            self.assertTrue(not ended or row in end_sets)
            self.assertLessEqual(left.fewest, len(row))
        for one in sets:
            self.assertFalse(any(set(other) < set(one) for other in sets))
            self.assertLessEqual(left.fewest, len(one))
        for name in left.program.shared:
            numbers = {fact.numbers(name) for fact in left.sets}
            due = sorted(one for one in numbers if not any(set(other) < set(one) for other in numbers))
            self.same(left.numbers(name), tuple(due))
