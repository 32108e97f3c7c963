"""[0.16], [0.17], [0.19], and the section of knowings."""

from showncalls.base.facts import Fact
from showncalls.base.programs import Procedure, Program
from showncalls.errors import InvalidKnowing, InvalidOperation, InvalidProgram, UnknownName
from showncalls.know.knowings import ends, entered, final, first_knowing, is_knowing, joined, possible, spoken
from tests import oracle
from tests.helper import DEEP, HALF, HUGE, MIRROR, ODD, OUTER, Case
from tests.making import Maker

SAY = ("say", "w", None)
START = first_knowing(OUTER, "main", OUTER.begins("main"))
KEPT, BEGINS = entered(OUTER, START)["p"]
INNER = first_knowing(OUTER, "p", BEGINS)
BEGIN = ((0,), (0,))
NOW = (0, (0,), (0,))
PAIR = (BEGIN, NOW)
# Of OUTER.
KNOWINGS = (
    START, KEPT, INNER, ("main", (PAIR,)), ("p", (PAIR,)), ("main", ((BEGIN, (4, (1,), (1,))),)),
    ("main", ((BEGIN, (0, (0,), (0,))), (BEGIN, (0, (0,), (1,))), (((1,), (0,)), (0, (0,), (0,))))), ("p", ((((1,), (1,)), NOW),)),
)
NO_KNOWINGS = ODD + (
    (), ("main",), ("main", ()), ("main", None), ("main", [PAIR]), ["main", (PAIR,)], ("main", (PAIR,), ()), ("q", (PAIR,)),
    (None, (PAIR,)), (["main"], (PAIR,)), ("main", PAIR), ("main", (None,)), ("main", ((BEGIN,),)), ("main", ((BEGIN, NOW, NOW),)),
    ("main", ([BEGIN, NOW],)), ("main", (PAIR, PAIR)), ("main", ((((1,), (0,)), NOW), PAIR)), ("main", ((BEGIN, (1, (0,), (0,))), PAIR)),
    ("main", ((((0,), (1,)), NOW),)), ("main", ((((0,), ()), NOW),)), ("main", ((((2,), (0,)), NOW),)), ("main", (((True,), (0,)), NOW)),
    ("main", ((((False,), (0,)), NOW),)), ("main", ((BEGIN, (5, (0,), (0,))),)), ("p", ((BEGIN, (3, (0,), (0,))),)),
    ("main", ((BEGIN, (0, (2,), (0,))),)), ("main", ((BEGIN, (0, (0,), (2,))),)), ("main", ((BEGIN, (0, (0,), ())),)),
    ("main", ((BEGIN, (False, (0,), (0,))),)), ("main", ((BEGIN, [0, (0,), (0,)]),)), ("main", ((BEGIN, (HUGE, (0,), (0,))),)),
    ("main", ((NOW, BEGIN),)), ("main", {PAIR: True}), ("main", ((MIRROR, NOW),)), ("main", ((BEGIN, (0, (0,), (0,), 0)),)),
)
CALLS = (
    (spoken, ()), (entered, ()), (ends, ()), (joined, ("p", ())), (joined, (None, None)), (possible, ()), (final, ()),
)


class Forms(Case):
    def test_knowings(self):
        for value in KNOWINGS:
            self.assertIs(is_knowing(OUTER, value), True, value)

    def test_other_values(self):
        for value in NO_KNOWINGS:
            self.assertIs(is_knowing(OUTER, value), False, value)
            for call, rest in CALLS:
                self.fails(InvalidKnowing, call, OUTER, value, *rest)

    def test_of_quiet_procedures(self):
        quiet = OUTER.with_quiet("p", True)
        self.same([is_knowing(quiet, INNER), is_knowing(quiet, START)], [False, True])
        for call, rest in CALLS:
            self.fails(InvalidKnowing, call, quiet, INNER, *rest)

    def test_own_cells_of_begins(self):
        program = Program({}, Procedure("main", (), own=(("a", 2), ("b", 2))), Procedure("p", (), own=(("a", 2), ("b", 2))))
        for own, of_main, of_p in (((0, 0), True, True), ((1, 0), False, True), ((0, 1), False, False), ((1, 1), False, False)):
            for now_own in ((0, 0), (1, 0), (0, 1)):
                pairs = ((((), own), (0, (), now_own)),)
                self.same([is_knowing(program, ("main", pairs)), is_knowing(program, ("p", pairs))], [of_main, of_p])

    def test_no_programs(self):
        for value in ODD:
            if not isinstance(value, Program):
                self.fails(InvalidProgram, is_knowing, value, START)
                self.fails(InvalidProgram, is_knowing, value, None)
                self.fails(InvalidProgram, first_knowing, value, None, None)
                for call, rest in CALLS:
                    self.fails(InvalidProgram, call, value, START, *rest)
                    self.fails(InvalidProgram, call, value, None, *rest)


class First(Case):
    def test_first(self):
        self.same(START, ("main", ((BEGIN, NOW), (((1,), (0,)), (0, (1,), (0,))))))
        self.same(first_knowing(OUTER, "main", OUTER.begins("main")[1:]), ("main", START[1][1:]))
        self.same(first_knowing(OUTER, "p", (((1,), (1,)),)), ("p", ((((1,), (1,)), (0, (1,), (1,))),)))

    def test_no_names(self):
        for name in ODD + ("q", "n", ["p"], ("p",)):
            self.same(self.fails(UnknownName, first_knowing, OUTER, name, OUTER.begins("p")).name, name)
            self.same(self.fails(UnknownName, first_knowing, OUTER, name, None).name, name)
        self.same(self.fails(UnknownName, first_knowing, OUTER.with_quiet("p", True), "p", BEGINS).name, "p")

    def test_no_begins(self):
        for begins in ODD + ((), [BEGIN], BEGIN, (BEGIN, BEGIN), (((1,), (0,)), BEGIN), (((0,), (1,)),), (((0,), ()),),
                             (((0,), (False,)),), (((2,), (0,)),), ((BEGIN,),), ([(0,), (0,)],), (BEGIN, None), {BEGIN: True}):
            self.fails(InvalidKnowing, first_knowing, OUTER, "main", begins)


class Following(Case):
    def test_spoken(self):
        self.same([spoken(OUTER, START), spoken(OUTER, KEPT)], [{}, {}])
        self.same(spoken(HALF, first_knowing(HALF, "main", HALF.begins("main")[:2])), {
            ("say", "a", 0): ("main", ((((0, 0), (0,)), (2, (0, 0), (0,))),)),
            ("say", "a", 1): ("main", ((((0, 1), (0,)), (2, (0, 1), (1,))),)),
        })

    def test_asked(self):
        program = Program({"x": 2, "y": 3}, Procedure("main", (("often", (("ask", "u", "y"),)), ("ask", "w", "x"), SAY)))
        begins = program.begins("main")[2:3]
        told = spoken(program, first_knowing(program, "main", begins))
        due = {("ask", "u", number): ("main", ((begins[0], (0, (0, number), ())),)) for number in (0, 1, 2)}
        due.update({("ask", "w", number): ("main", ((begins[0], (3, (number, 2), ())),)) for number in (0, 1)})
        self.same(told, due)
        self.assertEqual(list(told), sorted(due))

    def test_several_statements_write_a_line(self):
        program = Program({"x": 2}, Procedure("main", (("either", (SAY, ("hide", "x")), (("set", "x", (), (1,)), SAY)), SAY)))
        told = spoken(program, first_knowing(program, "main", program.begins("main")))
        self.same(told, {("say", "w"): ("main", (
            (((0,), ()), (2, (0,), ())), (((0,), ()), (5, (1,), ())), (((1,), ()), (2, (1,), ())), (((1,), ()), (5, (1,), ())),
        ))})

    def test_entered(self):
        self.same(BEGINS, (((0,), (0,)), ((0,), (1,)), ((1,), (0,)), ((1,), (1,))))
        self.same(KEPT, ("main", tuple((((n,), (0,)), (1, (n,), (a,))) for n in (0, 1) for a in (0, 1))))
        program = Program({}, Procedure("main", (("either", (("call", "q", None, None),), (("call", "r", None, None),)),)),
                          Procedure("p", (("call", "r", None, None),), quiet=True), Procedure("q", (("call", "p", None, None),)),
                          Procedure("r", ()))
        found = entered(program, first_knowing(program, "main", program.begins("main")))
        self.same(found, {name: (("main", ((((), ()), (place, (), ())),)), (((), ()),)) for name, place in (("q", 1), ("r", 2))})
        self.same(entered(program, first_knowing(program, "q", program.begins("q"))), {})

    def test_ends(self):
        one = spoken(OUTER, INNER)[("say", "one")]
        self.same(ends(OUTER, one), ((((0,), (1,)), ((0,), (1,))), (((1,), (1,)), ((1,), (1,)))))
        self.same(ends(OUTER, INNER), ((((0,), (0,)), ((0,), (0,))), (((1,), (0,)), ((1,), (0,)))))
        self.same([ends(OUTER, START), final(OUTER, START).standings], [(), ()])

    def test_joined(self):
        one = spoken(OUTER, INNER)[("say", "one")]
        self.same(joined(OUTER, KEPT, "p", ends(OUTER, one)),
                  ("main", ((BEGIN, (2, (0,), (1,))), (((1,), (0,)), (2, (1,), (1,))))))
        # Each begin goes with all ends that it has, and those of other begins are left aside.
        given = ((((0,), (0,)), ((0,), (1,))), (((0,), (0,)), ((1,), (0,))), (((1,), (1,)), ((1,), (1,))))
        kept = ("main", KEPT[1][:2])
        self.same(joined(OUTER, kept, "p", given), ("main", ((BEGIN, (2, (0,), (0,))), (BEGIN, (2, (1,), (0,))))))

    def test_what_is_given_back(self):
        for taken, behind in ((None, ((1,), (0,))), ("x", ((2,), (0,))), ("a", ((1,), (2,)))):
            program = Program({"x": 3}, Procedure("main", (("call", "p", None, taken),), own=(("a", 3),)),
                              Procedure("p", (), own=(("c", 3),)))
            kept = ("main", ((((0,), (0,)), (0, (0,), (0,))),))
            found = joined(program, kept, "p", ((((0,), (0,)), ((1,), (2,))),))
            self.same(found, ("main", ((((0,), (0,)), (1,) + behind),)))

    def test_possible_and_final(self):
        self.same([possible(OUTER, START).standings, possible(OUTER, START).cells], [((0,), (1,)), {"n": 2}])
        self.same(possible(OUTER, ("main", (PAIR,))).standings, ((0,),))
        last = ("main", ((BEGIN, (2, (0,), (1,))), (((1,), (0,)), (4, (0,), (1,)))))
        self.same([possible(OUTER, last).standings, final(OUTER, last).standings], [((0,),), ((0,),)])
        self.assertIsInstance(final(OUTER, START), Fact)
        silent = Program({"x": 2}, Procedure("main", (("hide", "x"),)))
        start = first_knowing(silent, "main", silent.begins("main")[:1])
        self.same([possible(silent, start).standings, final(silent, start).standings], [((0,),), ((0,), (1,))])

    def test_deep_calls(self):
        knowing = first_knowing(DEEP, "main", DEEP.begins("main"))
        kepts = []
        for _ in range(4):
            name = list(entered(DEEP, knowing))[0]
            kept, begins = entered(DEEP, knowing)[name]
            kepts.append(kept)
            knowing = first_knowing(DEEP, name, begins)
        self.same(possible(DEEP, knowing).standings, ((3, 0), (3, 1)))
        knowing = spoken(DEEP, knowing)["say", "at", 1]
        for kept in kepts[::-1]:
            self.same([possible(DEEP, knowing).standings], [((3, 1),)])
            knowing = joined(DEEP, kept, "p", ends(DEEP, knowing))
        self.same([knowing[0], final(DEEP, knowing).standings], ["main", ((3, 1),)])


class Joining(Case):
    GIVEN = ((((0,), (0,)), ((0,), (0,))),)

    def test_no_names(self):
        for name in ODD + ("q", "n", ["p"], ("p",)):
            self.same(self.fails(UnknownName, joined, OUTER, KEPT, name, self.GIVEN).name, name)
            self.same(self.fails(UnknownName, joined, OUTER, KEPT, name, None).name, name)
        self.fails(UnknownName, joined, OUTER.with_quiet("p", True), KEPT, "p", self.GIVEN)

    def test_no_ends(self):
        end = self.GIVEN[0]
        for given in ODD + ((), [end], end, (end, end), ((((1,), (0,)), end[1]), end), ((end[0], ((0,), (2,))),), ((end[0], ((0,), ())),),
                            ((end[0], ((2,), (0,))),), ((((0,), (2,)), end[1]),), ((((0,), ()), end[1]),), ((end[0],),), (end + end,),
                            (end, (((1,), (0,)), ((0,), (2,)))), (end, (((1,), (2,)), ((0,), (0,)))), ((end[0], ((0,), (2,))), (((1,), (0,)), end[1])),
                            ((end[0], [(0,), (0,)]),), ((end[0], ((0,), (0,), (0,))),), ((end[0], ((0,),)),), ((end[0], ([0], (0,))),), ((end[0], ((0,), [0])),),
                            ((end[0], ((True,), (0,))),), ([end[0], end[1]],), (None, end), ((end[0], (0, (0,), (0,))),), {end: True}):
            self.fails(InvalidKnowing, joined, OUTER, KEPT, "p", given)
            self.fails(InvalidKnowing, joined, OUTER, START, "p", given)

    def test_no_calls(self):
        self.fails(InvalidOperation, joined, OUTER, START, "p", self.GIVEN)
        self.fails(InvalidOperation, joined, OUTER, ("main", KEPT[1][:1] + ((((1,), (0,)), (4, (0,), (0,))),)), "p", self.GIVEN)
        self.fails(InvalidOperation, joined, OUTER, KEPT, "main", ((((0,), (0,)), ((0,), (1,))),))
        self.fails(InvalidOperation, joined, OUTER, ("p", (PAIR,)), "p", self.GIVEN)

    def test_nothing_comes_of_it(self):
        self.fails(InvalidOperation, joined, OUTER, ("main", KEPT[1][:1]), "p", ((((0,), (1,)), ((0,), (1,))),))
        self.same(joined(OUTER, ("main", KEPT[1][:1]), "p", self.GIVEN), ("main", ((BEGIN, (2, (0,), (0,))),)))


class Copies(Case):
    def test_what_is_returned(self):
        for call in (spoken, entered):
            call(OUTER, INNER).clear()
            call(OUTER, INNER)["x"] = 1
        self.same(list(spoken(OUTER, INNER)), [("say", "one")])
        self.same(list(entered(OUTER, START)), ["p"])

    def test_keys_ascend(self):
        maker = Maker(13, statements=10)
        for _ in range(60):
            program = maker.program()
            knowing = first_knowing(program, "main", program.begins("main"))
            for found in (spoken(program, knowing), entered(program, knowing)):
                self.assertEqual(list(found), sorted(found))


class AgainstTheOracle(Case):
    """A knowing goes on like the pairs of a begin and a now from which whole situations go on."""

    def test_all_lines(self):
        maker = Maker(12, statements=7, quiet=0.5)
        many = 0
        for _ in range(150):
            program = maker.program()
            name = maker.chance.choice([name for name in program.names if not program[name].quiet])
            knowing = self.any_knowing(maker.chance, program, name)
            alone = program
            if name != "main":
                # A call of it, seen, with nothing else ahead.
                start = Procedure("start", (("call", name, None, None),))
                alone = Program.of(program.shared, (start,) + program.procedures[1:])
            pairs = self.whole(alone, name, knowing)
            goes_on = oracle.silently(alone, pairs, 7)
            if goes_on == oracle.silently(alone, pairs, 5):
                many += 1
                self.compare(program, name, knowing, oracle.behind_lines(alone, pairs, 7))
                self.same(ends(program, knowing), self.due_ends(program, name, goes_on))
        self.assertGreater(many, 120)

    def due_ends(self, program, name, goes_on):
        last = len(program[name])
        return tuple(sorted((begins[-1], (standing, frames[-1][2])) for (standing, frames), begins in goes_on
                            if len(frames) == len(begins) and frames[-1][1] == last))

    def any_knowing(self, chance, program, name):
        begins = program.begins(name)
        pairs = set()
        for _ in range(chance.randint(1, 5)):
            standing = chance.choice(begins)[0]
            own = tuple(chance.randrange(size) for cell, size in program[name].own)
            pairs.add((chance.choice(begins), (chance.randrange(len(program[name]) + 1), standing, own)))
        return (name, tuple(sorted(pairs)))

    def whole(self, program, name, knowing):
        """Pairs as of the oracle; in front of another procedure than main, there is a frame of main at its call."""
        found = set()
        for begin, (place, standing, own) in knowing[1]:
            ahead = () if name == program.main else ((program.main, 0, ()),)
            found.add(((standing, ahead + ((name, place, own),)), (None,) * len(ahead) + (begin,)))
        return found

    def compare(self, program, name, knowing, found):
        told = {line: oracle.knowing(program, pairs) for line, pairs in found.items() if line[0] in ("say", "ask")}
        self.same(spoken(program, knowing), {line: told[line] for line in sorted(told)})
        due = {}
        for line, pairs in found.items():
            if line[0] == "enter":
                kept = {(begins[-2], (frames[-2][1], standing, frames[-2][2])) for (standing, frames), begins in pairs}
                due[line[1]] = ((name, tuple(sorted(kept))), tuple(sorted({begins[-1] for situation, begins in pairs})))
        self.same(entered(program, knowing), {key: due[key] for key in sorted(due)})
        left = {standing for (standing, frames), begins in found.get(("leave", name), ())}
        self.same(final(program, knowing).standings, tuple(sorted(left)))
