"""[0.23], [0.24], [0.25], and the section of parts left out."""

from itertools import combinations

from showncalls.base.facts import Fact
from showncalls.base.programs import Procedure, Program
from showncalls.compare.alike import are_alike
from showncalls.compare.more import gives_no_more
from showncalls.compare.parts import MAX_PARTS, cut_log, for_words, greatest_shown, is_part, parts_of, without_parts
from showncalls.compare.silent import is_silent
from showncalls.errors import InvalidLog, InvalidOperation, InvalidProgram, TooMany
from showncalls.give.counts import count_logs
from showncalls.give.left import Left
from tests import oracle
from tests.helper import DEEP, HALF, HUGE, MIRROR, ODD, OUTER, Case
from tests.making import SAY, Maker, call, facts_of, procedure, with_knowings, without_word

MAIN, LEFT = ("enter", "main"), ("leave", "main")
LOG = (MAIN, ("enter", "p"), ("say", "at", 1), ("leave", "p"))
MIXED = Program(
    {"x": 2}, procedure("main", call("p"), ("often", (("ask", "w", "x"), ("if", "x", 1, (("say", "w", "x"), ("say", "v", None)), ()))), call("q")),
    procedure("p", ("either", (("say", "w", "a"), call("p", "a", "a")), (("ask", "v", "a"),)), own=(("a", 2),)), procedure("q", SAY, quiet=True),
)
NO_PARTS = ODD + (("word",), ("word", "w", "w"), ["word", "w"], ("word", "zzz"), ("call", "main"), ("call", "q"), ("call", "zzz"), ("call", "w"), ("word", "p"),
                  ("Word", "w"), ("word", None), ("call", None), ("word", ["w"]), ("call", ("p",)), (None, "w"), ("call", True), (("word",), "w"), ("Call", "p"), (None, "p"), ("calls", "p"))


def some(values):
    """All tuples of some of these values, in their order."""
    for many in range(len(values) + 1):
        yield from combinations(values, many)


def cut_by_hand(parts, log):
    """[0.23], from the open calls ahead of each line."""
    opened, kept = [], []
    for line in log:
        if line[0] == "enter":
            opened.append(line[1])
        if not any(("call", name) in parts for name in opened) and not (line[0] in ("ask", "say") and ("word", line[1]) in parts):
            kept.append(line)
        if line[0] == "leave":
            opened.pop()
    return tuple(kept)


class Parts(Case):
    def test_the_documents_programs(self):
        self.same([parts_of(program) for program in (MIRROR, DEEP, OUTER, HALF, MIXED, Program({}, procedure("main")))], [
            (("call", "p"), ("word", "at")), (("call", "p"), ("word", "at")), (("call", "p"), ("word", "end"), ("word", "one")),
            (("word", "a"), ("word", "b")), (("call", "p"), ("word", "v"), ("word", "w")), ()])

    def test_they_ascend_whatever_the_order_of_the_procedures(self):
        program = Program({}, procedure("main", call("z"), call("a"), ("say", "z", None), ("say", "a", None)), procedure("z"), procedure("b", quiet=True), procedure("a"))
        self.same(parts_of(program), (("call", "a"), ("call", "z"), ("word", "a"), ("word", "z")))

    def test_is_part(self):
        for program in (MIRROR, DEEP, OUTER, HALF, MIXED):
            for kind in ("word", "call"):
                for name in ("main", "p", "q", "w", "v", "at", "a", "b", "end", "one"):
                    self.assertIs(is_part(program, (kind, name)), (kind, name) in parts_of(program))
        for value in NO_PARTS:
            self.assertIs(is_part(MIXED, value), False, value)

    def test_without_parts(self):
        self.assertEqual(without_parts(MIXED, ()), MIXED)
        self.assertEqual(without_parts(MIXED, (("call", "p"),)), MIXED.with_quiet("p", True))
        less = without_parts(MIXED, (("word", "w"),))
        self.same([less["main"].body, less["p"].body, less["q"].body], [
            (call("p"), ("often", (("hide", "x"), ("if", "x", 1, (("say", "v", None),), ()))), call("q")),
            (("either", (call("p", "a", "a"),), (("ask", "v", "a"),)),), ()])
        less = without_parts(MIXED, (("word", "v"), ("word", "w")))
        self.same([less["main"].body[1], less["p"].body], [("often", (("hide", "x"), ("if", "x", 1, (), ()))), (("either", (call("p", "a", "a"),), (("hide", "a"),)),)])
        self.same([less.words, less["p"].own, less["q"].quiet, less["p"].quiet, less.names, less.shared], [(), (("a", 2),), True, False, MIXED.names, {"x": 2}])
        less = without_parts(MIXED, parts_of(MIXED))
        self.same([parts_of(less), less["p"].quiet, less["main"].quiet], [(), True, False])

    def test_one_by_one_in_any_order(self):
        for seed in range(60):
            program = Maker(seed + 3600, statements=7, most=4).program()
            for parts in list(some(parts_of(program)))[:12]:
                made = program
                for kind, name in parts[::-1]:
                    made = without_word(made, name) if kind == "word" else made.with_quiet(name, True)
                self.assertEqual(without_parts(program, parts), made)

    def test_for_words(self):
        self.assertEqual(for_words(MIXED, ("v", "w")), MIXED)
        self.assertEqual(for_words(MIXED, ("v",)), without_parts(MIXED, (("word", "w"),)))
        self.assertEqual(for_words(MIXED, ()), without_parts(MIXED, (("word", "v"), ("word", "w"))))
        self.assertEqual(for_words(MIXED, ("a", "main", "p", "v", "zzz")), without_parts(MIXED, (("word", "w"),)))
        self.assertEqual(for_words(Program({}, procedure("main")), ("a",)), Program({}, procedure("main")))


class Cut(Case):
    def test_lines(self):
        log = (MAIN, ("ask", "w", 1), ("enter", "p"), ("say", "w", 0), ("enter", "p"), ("ask", "v", 1), ("leave", "p"), ("leave", "p"), ("say", "v"), LEFT)
        self.same([cut_log(MIXED, parts, log) for parts in ((), (("call", "p"),), (("word", "w"),), (("word", "v"), ("word", "w")))], [
            log, (MAIN, ("ask", "w", 1), ("say", "v"), LEFT), tuple(line for line in log if line[1] != "w"),
            tuple(line for line in log if line[1] not in ("v", "w"))])
        self.same(cut_log(MIXED, parts_of(MIXED), log), (MAIN, LEFT))
        for many in range(3, 8):
            self.same(cut_log(MIXED, (("call", "p"),), log[:many]), log[:2])

    def test_logs_by_their_form_alone(self):
        # Lines and procedures that the program has not, and calls within one that is left out.
        log = (MAIN, ("enter", "zzz"), ("say", "w", 3), ("enter", "p"), ("enter", "main"), ("leave", "main"), ("say", "b"), ("leave", "p"), ("say", "b"), ("leave", "zzz"))
        self.same(cut_log(MIXED, (("call", "p"), ("word", "w")), log), (MAIN, ("enter", "zzz"), ("say", "b"), ("leave", "zzz")))
        self.same(cut_log(OUTER, (("call", "p"),), LOG), (MAIN,))
        self.same(cut_log(OUTER, (), LOG), LOG)

    def test_against_open_calls(self):
        for seed in range(60):
            maker = Maker(seed + 3700, statements=6)
            program = maker.program()
            logs = list(oracle.all_logs(program, 6, 4))
            for parts in list(some(parts_of(program)))[:8]:
                for log in maker.chance.sample(logs, min(10, len(logs))):
                    self.same(cut_log(program, parts, log), cut_by_hand(parts, log))

    def test_what_can_stand_at_cut_logs(self):
        """[0.23], for programs all of whose logs are found."""
        checked = 0
        for seed in range(400):
            maker = Maker(seed + 3800, statements=4, shared=({"x": 2}, {"x": 2, "y": 2}))
            program = maker.program()
            parts = parts_of(program)
            if not parts or count_logs(program, 8) or count_logs(program, 6) > 60:
                continue
            logs = oracle.sure_logs(program, 8)
            for left_out in maker.chance.sample(list(some(parts)), min(4, 2 ** len(parts))) if logs else ():
                lesser = without_parts(program, left_out)
                fewer = oracle.sure_logs(lesser, 8)
                if fewer is None:
                    continue
                due = {}
                for log in logs:
                    if len(cut_by_hand(left_out, log)) > len(cut_by_hand(left_out, log[:-1])):
                        due.setdefault(cut_log(program, left_out, log), set()).update(oracle.standings(logs[log]))
                self.assertEqual({log: set(oracle.standings(fewer[log])) for log in fewer}, due)
                checked += 1
        self.assertGreater(checked, 60)

    def test_less_shown_lets_no_more_be_known(self):
        for seed in range(80):
            maker = Maker(seed + 4300, statements=7, shared=({"x": 2}, {"x": 2, "y": 2}, {"x": 3}))
            program = maker.program()
            for parts in maker.chance.sample(list(some(parts_of(program))), min(4, 2 ** len(parts_of(program)))):
                lesser = without_parts(program, parts)
                self.assertIs(gives_no_more(lesser, program), True)
                self.assertTrue(all(fact in Left(program) for fact in Left(lesser).sets))


class NotTrue(Case):
    """[0.24]: each of these has a program for which it is not so."""

    def test_a_line_without_a_number(self):
        program = Program({"x": 2}, procedure("main", ("if", "x", 1, (SAY,), ())))
        lesser = without_parts(program, (("word", "w"),))
        self.same([len(Left(program)), len(Left(lesser)), are_alike(program, lesser)], [2, 1, False])

    def test_two_words_that_tell_nothing_each(self):
        fact = Fact.where(HALF.shared, {"x": 1})
        self.same([fact in Left(for_words(HALF, words)) for words in ((), ("a",), ("b",), ("a", "b"))], [False, False, False, True])

    def test_a_silent_program_does_not_stay_silent(self):
        program = Program({"x": 2}, procedure("main", ("ask", "w", "x"), ("if", "x", 1, (call("p"), SAY), (call("p"), ("say", "v", None)))), procedure("p", ("say", "z", None)))
        self.assertIs(is_silent(program), True)
        for parts in ((("word", "w"),), (("call", "p"), ("word", "w"))):
            self.assertIs(is_silent(without_parts(program, parts)), False)

    def test_alike_programs_that_let_other_facts_be_known(self):
        one = Program({"x": 2}, procedure("main", SAY))
        other = Program({"x": 2}, procedure("main", SAY, ("set", "x", (), (1,))))
        self.same([are_alike(one, other), len(Left(one).sets[0]), len(Left(other).sets[0])], [True, 2, 1])


class Greatest(Case):
    def greatest(self, program, parts, facts):
        """The greatest sets, each set looked at by itself."""
        fine = []
        for shown in some(parts):
            left = Left(without_parts(program, tuple(part for part in parts if part not in shown)))
            if not any(fact in left for fact in facts):
                fine.append(shown)
        return tuple(sorted(one for one in fine if not any(set(one) < set(other) for other in fine)))

    def test_the_documents_programs(self):
        parts = (("word", "a"), ("word", "b"))
        zero, one = (Fact.where(HALF.shared, {"x": number}) for number in (0, 1))
        self.same([greatest_shown(HALF, parts, facts) for facts in ((zero,), (zero, one), (), (Fact.every(HALF.shared),), (one, Fact.every(HALF.shared)))],
                  [((parts[0],), (parts[1],))] * 2 + [(parts,), (), ()])
        # The parts that are not asked about are shown all the while.
        self.same([greatest_shown(HALF, (), facts) for facts in ((), (one,))], [((),), ()])
        self.same([greatest_shown(HALF, parts[:1], (one,)), greatest_shown(HALF, parts[:1], (Fact.where(HALF.shared, {"k": 1}),))], [((),), ()])
        self.same(greatest_shown(HALF, parts, (Fact.where(HALF.shared, {"k": 1}),)), ((parts[0],),))
        self.same(greatest_shown(OUTER, parts_of(OUTER), (Fact.where(OUTER.shared, {"n": 1}),)), self.greatest(OUTER, parts_of(OUTER), (Fact.where(OUTER.shared, {"n": 1}),)))

    def test_they_ascend(self):
        # With b and one of the others x is known; the others tell the same.
        body = HALF["main"].body + (("say", "c", "s"),)
        program = HALF.with_procedure(Procedure("main", body, own=HALF["main"].own))
        a, b, c = parts_of(program)
        self.same(greatest_shown(program, (a, b, c), (Fact.where(program.shared, {"x": 1}),)), ((a, c), (b,)))

    def test_four_parts_and_five(self):
        says = [("say", word, None) for word in "abcde"]
        program = Program({"x": 2}, procedure("main", *says[:4], ("say", "e", "x")))
        parts = parts_of(program)
        fact = Fact.where({"x": 2}, {"x": 1})
        self.same([len(parts), MAX_PARTS, greatest_shown(program, parts[:4], (fact,)), greatest_shown(program, parts[1:], (fact,))], [5, 4, (), (parts[1:4],)])
        for facts in ((), (fact,), (Fact({"x": 2}),)):
            self.assertEqual(self.fails(TooMany, greatest_shown, program, parts, facts).limit, 4)

    def test_against_each_set(self):
        found = set()
        for seed in range(60):
            maker = Maker(seed + 4500, statements=7, shared=({"x": 2}, {"x": 2, "y": 2}, {"x": 3}))
            program = maker.program()
            parts = parts_of(program)
            parts = tuple(sorted(maker.chance.sample(parts, min(len(parts), 3))))
            facts = tuple(maker.chance.sample(list(facts_of(program)), 2))
            due = self.greatest(program, parts, facts)
            self.same(greatest_shown(program, parts, facts), due)
            self.same(greatest_shown(program, parts, facts[::-1] + facts), due)
            found.add(len(due))
        self.assertLessEqual({0, 1, 2}, found)


class Wrong(Case):
    def test_programs(self):
        for value in ODD:
            if not isinstance(value, Program):
                for ask, args in ((is_part, (None,)), (parts_of, ()), (without_parts, (None,)), (cut_log, (None, None)), (for_words, (None,)), (greatest_shown, (None, None))):
                    self.fails(InvalidProgram, ask, value, *args)

    def test_parts(self):
        parts = parts_of(MIXED)
        wrong = [(part,) for part in NO_PARTS] + [value for value in ODD if value != ()] + [list(parts), parts[::-1], parts + parts[-1:], parts[:1] + parts[:1], (None,) + parts,
                                                                    parts + (("word", "zzz"),), (("call", "main"),) + parts, ("call", "p"), "p"]
        for value in wrong:
            self.fails(InvalidOperation, without_parts, MIXED, value)
            self.fails(InvalidOperation, cut_log, MIXED, value, None)
            self.fails(InvalidOperation, cut_log, MIXED, value, LOG)
            self.fails(InvalidOperation, greatest_shown, MIXED, value, None)
        self.fails(InvalidOperation, greatest_shown, with_knowings(1), (("word", "zzz"),), ())

    def test_logs(self):
        for value in ODD + ((), (LEFT,), LOG[1:], list(LOG), LOG + (LEFT, LEFT), (("enter", "p"),), (("enter", "start"), ("say", "at", 1)), (MAIN, ("leave", "p")), (MAIN, ["say", "w"]),
                            (MAIN, ("say", "w", 4)), (MAIN, ("say", "w", True)), (MAIN, LEFT, ("say", "w"))):
            self.fails(InvalidLog, cut_log, MIXED, (), value)
            self.fails(InvalidLog, cut_log, MIXED, parts_of(MIXED), value)

    def test_words(self):
        for value in ODD + (["v"], ("w", "v"), ("v", "v"), ("v", None), (1,), "v", ("V",), ("", "v"), (HUGE,), (("v",),), {"v": 1}, ("a", "abcdefghi")):
            if value not in ((), ("a", "b"), ("enter",), ("set", "x")):
                self.fails(InvalidOperation, for_words, MIXED, value)

    def test_facts(self):
        one = Fact({"x": 2}, ((1,),))
        for value in ODD + ([one], (one, None), (Fact({}),), (Fact({"x": 3}),), (one, Fact({"x": 2, "y": 2})), one, (((1,),),), {one.standings: one}):
            if value != ():
                self.fails(InvalidOperation, greatest_shown, MIXED, (), value)
                self.fails(InvalidOperation, greatest_shown, MIXED, parts_of(MIXED), value)
        five = Program({"x": 2}, procedure("main", *[("say", word, None) for word in "abcde"]))
        self.fails(InvalidOperation, greatest_shown, five, parts_of(five), None)

    def test_four_hundred(self):
        # With the word there are few knowings, without it there are too many, or the other way round.
        great = with_knowings(1)
        none = Fact(great.shared)
        for facts in ((), (none,), (Fact.every(great.shared),)):
            self.assertEqual(self.fails(TooMany, greatest_shown, great, (), facts).limit, 400)
            # Without a line of r there are 400.
            self.assertEqual(self.fails(TooMany, greatest_shown, great, (("call", "r"),), facts).limit, 400)
        fine = with_knowings(0)
        self.same(greatest_shown(fine, (("call", "r"),), (none,)), ((("call", "r"),),))
        self.same(greatest_shown(fine, (), (none,)), ((),))
        five = Program.of(great.shared, (Procedure("main", great["main"].body + tuple(("say", word, None) for word in "abcd"), own=great["main"].own),) + great.procedures[1:])
        self.assertEqual(self.fails(TooMany, greatest_shown, five, parts_of(five)[-5:], ()).limit, 4)
