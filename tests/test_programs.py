"""[0.1] to [0.5], [0.8], [0.9], [0.16], and the class Program, but for its places."""

import itertools

from showncalls.base.programs import Procedure, Program
from showncalls.errors import InvalidOperation, InvalidProgram, UnknownName
from tests.helper import DEEP, HALF, HUGE, MIRROR, ODD, OUTER, Case

SAY = ("say", "w", None)
MAIN = Procedure("main", ())
NO_NAMES = ODD + ("nothing", "x", ["main"], ("main",), {"main": 2}, "Main")


def letters(many):
    """Procedures without statements, with different names."""
    return tuple(Procedure(letter, ()) for letter in "abcdefghij"[:many])


def with_body(*body, shared=None, own=(("a", 2), ("b", 3)), others=()):
    """A program whose main procedure has this body; it has cells of all sizes if no others are told."""
    shared = {"x": 2, "y": 3} if shared is None else shared
    return Program(shared, Procedure("main", body, own=own), *others)


class Making(Case):
    def accepts(self, shared, *procedures):
        for made in (Program(shared, *procedures), Program.of(shared, procedures)):
            self.same(made.shared, dict(sorted(shared.items())))
            self.assertEqual(made.procedures, procedures)
            self.assertIsInstance(made.procedures, tuple)

    def rejects(self, shared, *procedures):
        self.fails(InvalidProgram, Program, shared, *procedures)
        self.fails(InvalidProgram, Program.of, shared, procedures)

    def test_shared_cells(self):
        for shared in ({}, {"x": 2}, {"x": 4}, {"b": 4, "a": 4}, {"d": 2, "c": 2, "b": 2, "a": 2}, {"main": 3}):
            self.accepts(shared, MAIN)

    def test_no_shared_cells(self):
        for shared in ODD + ({"a": 4, "b": 4, "c": 2}, {"a": 3, "b": 3, "c": 2}, {name: 2 for name in "abcde"},
                             {"a": 2, "b": True}, {"a": HUGE}, {"abcdefghi": 2}, (("x", 2),), [("x", 2)]):
            self.rejects(shared, MAIN)
            self.rejects(shared)

    def test_one_to_eight_procedures(self):
        for many in range(1, 9):
            self.accepts({}, *letters(many))
        for many in (0, 9, 10):
            self.rejects({}, *letters(many))

    def test_no_procedures(self):
        for value in ODD + ((), [], "main", [MAIN], (MAIN,), Procedure, {"main": MAIN}):
            if not isinstance(value, Procedure):
                self.rejects({}, value)
                self.rejects({}, MAIN, value)
        for value in ODD + ([MAIN], {MAIN.called: MAIN}, MAIN, None, "main", []):
            self.fails(InvalidProgram, Program.of, {}, value)
        self.fails(InvalidProgram, Program.of, {}, ())
        self.fails(InvalidProgram, Program.of, None, None)

    def test_different_names(self):
        self.rejects({}, MAIN, MAIN)
        self.rejects({}, MAIN, Procedure("p", ()), Procedure("p", (SAY,)))
        self.rejects({}, MAIN, Procedure("p", (), quiet=True), Procedure("p", ()))

    def test_main_is_not_quiet(self):
        self.rejects({}, Procedure("main", (), quiet=True))
        self.rejects({}, Procedure("main", (), quiet=True), Procedure("p", ()))
        self.accepts({}, MAIN, Procedure("p", (), quiet=True), Procedure("q", (), quiet=True))

    def test_own_cells(self):
        self.rejects({"x": 2}, Procedure("main", (), own=(("x", 2),)))
        self.rejects({"x": 2}, MAIN, Procedure("p", (), own=(("a", 2), ("x", 3))))
        self.accepts({"x": 2}, Procedure("main", (), own=(("a", 2),)), Procedure("p", (), own=(("a", 3), ("p", 2))))

    def test_products_of_own_cells(self):
        self.accepts({"x": 4, "y": 4}, Procedure("main", (), own=(("a", 4),)))
        self.accepts({"x": 4, "y": 4}, Procedure("main", (), own=(("a", 2), ("b", 2))))
        self.accepts({"x": 4}, MAIN, Procedure("p", (), own=(("a", 4), ("b", 4))))
        self.accepts({"x": 4, "y": 3}, MAIN, Procedure("p", (), own=(("a", 2), ("b", 2))))
        self.rejects({"x": 4, "y": 4}, Procedure("main", (), own=(("a", 3), ("b", 2))))
        self.rejects({"x": 4, "y": 3}, MAIN, Procedure("p", (), own=(("a", 2), ("b", 3))))
        self.rejects({"x": 3, "y": 3}, MAIN, Procedure("p", (), own=(("a", 4), ("b", 2))))
        self.rejects({"x": 4, "y": 2}, MAIN, Procedure("p", (), own=(("a", 3), ("b", 3))))

    def test_cells_that_are_not_there(self):
        for cell, due in (("x", True), ("a", True), ("q", False), ("main", False), ("c", False)):
            statements = (
                ("hide", cell), ("ask", "w", cell), ("say", "w", cell), ("set", cell, (), (0,)),
                ("if", cell, 0, (), ()), ("often", (("hide", cell),)), ("either", (), (("say", "w", cell),)),
                ("if", "x", 0, (), (("often", (("hide", cell),)),)),
                ("call", "p", cell, None), ("call", "p", None, cell), ("call", "p", cell, cell),
            )
            keys = [("set", "x", (cell, "b"), (0,) * 6), ("set", "x", ("b", cell), (0,) * 6), ("set", "x", (cell,), (0,) * 2)]
            for statement in statements + tuple(keys):
                procedures = (Procedure("main", (SAY, statement), own=(("a", 2), ("b", 3))),
                              Procedure("p", (), own=(("c", 2),)))
                (self.accepts if due else self.rejects)({"x": 2}, *procedures)

    def test_own_cells_of_another_procedure_are_not_there(self):
        self.rejects({}, Procedure("main", (), own=(("a", 2),)), Procedure("p", (("hide", "a"),)))
        self.rejects({}, Procedure("main", (("hide", "a"),)), Procedure("p", (), own=(("a", 2),)))

    def test_tables(self):
        sizes = {"x": 2, "y": 3, "a": 2, "b": 3}
        for cell, keys in itertools.product(sizes, ((), ("x",), ("y",), ("b",), ("x", "a"), ("b", "x"), ("y", "b"))):
            many = 1
            for key in keys:
                many = many * sizes[key]
            top = sizes[cell] - 1
            with_body(("set", cell, keys, (top,) * many))
            for table in ((top,) * (many - 1), (top,) * (many + 1), (0,) * (many - 1) + (top + 1,),
                          (top + 1,) + (0,) * (many - 1)):
                if table:
                    with self.assertRaises(InvalidProgram):
                        with_body(("set", cell, keys, table))

    def test_tables_of_sixteen_numbers(self):
        shared = {"x": 4, "y": 4}
        self.accepts(shared, Procedure("main", (("set", "x", ("x", "y"), (0, 1, 2, 3) * 4),)))
        self.rejects(shared, Procedure("main", (("set", "x", ("x", "y"), (0, 1, 2, 3) * 3),)))

    def test_the_number_of_an_if(self):
        for cell, size in (("x", 2), ("y", 3), ("a", 2), ("b", 3)):
            for number in range(4):
                if number < size:
                    with_body(("if", cell, number, (), ()))
                else:
                    with self.assertRaises(InvalidProgram):
                        with_body(("often", (("if", cell, number, (), ()),)))

    def test_one_size_for_a_word_that_is_asked(self):
        with_body(("ask", "w", "x"), ("ask", "w", "a"), ("ask", "v", "y"), ("ask", "v", "b"))
        with_body(("ask", "w", "x"), ("say", "w", "y"), ("say", "w", None))
        for second in ("y", "b"):
            with self.assertRaises(InvalidProgram):
                with_body(("ask", "w", "x"), ("ask", "w", second))
            with self.assertRaises(InvalidProgram):
                with_body(("often", (("ask", "w", "x"),)), ("either", (), (("ask", "w", second),)))
        ask = Procedure("main", (("ask", "w", "x"),))
        self.accepts({"x": 2}, ask, Procedure("p", (("ask", "w", "c"),), own=(("c", 2),)))
        self.rejects({"x": 2}, ask, Procedure("p", (("ask", "w", "c"),), own=(("c", 3),)))
        self.rejects({"x": 2}, ask, Procedure("p", ()), Procedure("q", (("ask", "w", "c"),), own=(("c", 4),)))

    def test_main_is_not_called(self):
        call = ("call", "main", None, None)
        self.rejects({}, Procedure("main", (call,)))
        self.rejects({}, MAIN, Procedure("p", (("often", (call,)),)))
        self.accepts({}, Procedure("p", ()), Procedure("main", (call,)))

    def test_calls_of_procedures_that_are_not_there(self):
        self.rejects({}, Procedure("main", (("call", "p", None, None),)))
        self.rejects({}, Procedure("main", (("call", "p", None, None),)), Procedure("q", ()))
        self.accepts({}, Procedure("main", (("call", "p", None, None),)), Procedure("p", (("call", "p", None, None),)))
        self.accepts({}, Procedure("main", (("call", "p", None, None),)), Procedure("p", (), quiet=True))

    def test_what_is_passed(self):
        ways = ((None, None), ("x", None), (None, "x"), ("x", "x"), ("x", "y"), ("y", "x"), ("y", None), (None, "y"))
        for own in ((), (("c", 2),), (("c", 3),), (("c", 2), ("d", 3)), (("d", 3), ("c", 2)), (("c", 4),)):
            for given, taken in ways:
                sizes = [{"x": 2, "y": 3}[cell] for cell in (given, taken) if cell is not None]
                due = all(own and own[0][1] == size for size in sizes)
                procedures = (Procedure("main", (("call", "p", given, taken),)), Procedure("p", (), own=own))
                (self.accepts if due else self.rejects)({"x": 2, "y": 3}, *procedures)

    def test_what_is_passed_to_itself(self):
        call = ("call", "p", "c", "d")
        self.accepts({}, MAIN, Procedure("p", (call,), own=(("c", 2), ("d", 2))))
        self.rejects({}, MAIN, Procedure("p", (call,), own=(("c", 2), ("d", 3))))

    def test_several_wrong(self):
        for wrong in ODD:
            self.rejects(wrong, Procedure("main", (("hide", "q"),), quiet=True), None)

    def test_the_examples(self):
        self.same([len(each) for each in (MIRROR, DEEP, OUTER, HALF)], [2, 2, 2, 1])


class Reading(Case):
    def test_properties(self):
        self.same([OUTER.shared, OUTER.names, OUTER.main, OUTER.words], [{"n": 2}, ("main", "p"), "main", ("end", "one")])
        self.same([HALF.shared, HALF.names, HALF.main, HALF.words], [{"k": 2, "x": 2}, ("main",), "main", ("a", "b")])
        self.assertEqual(OUTER.procedures, (OUTER["main"], OUTER["p"]))
        self.same([Program({}, Procedure("q", ())).main, Program({}, MAIN).words], ["q", ()])

    def test_words(self):
        made = Program(
            {"x": 2},
            Procedure("main", (("say", "z", None), ("ask", "c", "x"), ("hide", "x"), ("often", (("say", "b", "x"),)))),
            Procedure("p", (("either", (), (("if", "x", 0, (("ask", "a", "x"),), (("say", "z", "x"),)),)),), quiet=True),
            Procedure("q", (("call", "p", None, None),)),
        )
        self.same(made.words, ("a", "b", "c", "z"))

    def test_item(self):
        self.assertTrue(OUTER["p"] == OUTER.procedures[1])
        for name in NO_NAMES:
            self.same(self.fails(UnknownName, lambda: OUTER[name]).name, name)

    def test_cells_of(self):
        self.same([OUTER.cells_of("main"), OUTER.cells_of("p")], [{"a": 2, "n": 2}, {"c": 2, "n": 2}])
        made = with_body(own=(("z", 3), ("m", 2)), shared={"y": 2, "n": 3})
        self.same(made.cells_of("main"), {"m": 2, "n": 3, "y": 2, "z": 3})
        for name in NO_NAMES:
            self.same(self.fails(UnknownName, OUTER.cells_of, name).name, name)

    def test_begins(self):
        self.same(MIRROR.begins("main"), (((0,), ()), ((1,), ())))
        self.same(OUTER.begins("main"), (((0,), (0,)), ((1,), (0,))))
        self.same(OUTER.begins("p"), (((0,), (0,)), ((0,), (1,)), ((1,), (0,)), ((1,), (1,))))
        two = Program({"y": 2, "x": 2}, Procedure("main", (), own=(("a", 2), ("b", 2))),
                      Procedure("p", (), own=(("d", 3), ("c", 2)), quiet=True), Procedure("q", ()))
        standings = ((0, 0), (0, 1), (1, 0), (1, 1))
        self.same(two.begins("main"), tuple((standing, (0, 0)) for standing in standings))
        self.same(two.begins("p"), tuple((standing, (number, 0)) for standing in standings for number in (0, 1, 2)))
        self.same(two.begins("q"), tuple((standing, ()) for standing in standings))
        self.same(Program({}, MAIN).begins("main"), (((), ()),))
        for name in NO_NAMES:
            self.same(self.fails(UnknownName, OUTER.begins, name).name, name)

    def test_in(self):
        self.same(["main" in OUTER, "p" in OUTER, "n" in OUTER, "a" in OUTER, "q" in OUTER], [True, True] + [False] * 3)
        for value in NO_NAMES + (OUTER["p"],):
            self.assertIs(value in OUTER, False)
            self.assertIs(value not in OUTER, True)

    def test_equality(self):
        again = Program({"n": 2}, *OUTER.procedures)
        self.same([OUTER == again, OUTER != again], [True, False])
        two = (Procedure("main", ()), Procedure("p", (SAY,)), Procedure("q", ()))
        made = Program({"y": 3, "x": 2}, *two)
        self.assertTrue(made == Program({"x": 2, "y": 3}, *two))
        others = (
            Program({"x": 2}, *two), Program({"x": 2, "y": 2}, *two), Program({"x": 2, "z": 3}, *two),
            Program({"y": 3, "x": 2}, two[0], two[2], two[1]), Program({"y": 3, "x": 2}, *two[:2]),
            made.with_quiet("q", True), made.with_procedure(Procedure("p", ())),
        )
        for other in others + ODD + (two, two[0]):
            self.same([made == other, made != other, other == made], [False, True, False])

    def test_size_and_text(self):
        for many in (1, 2, 8):
            for shared in ({}, {"x": 2}, {"x": 2, "y": 2}):
                made = Program(shared, *letters(many))
                self.assertEqual(len(made), many)
                self.assertEqual(str(made), f"program of {many} procedures, {len(shared)} shared cells")

    def test_no_iteration(self):
        for call in (iter, list, tuple, sorted, enumerate):
            with self.assertRaises(TypeError):
                call(OUTER)
        with self.assertRaises(TypeError):
            for procedure in OUTER:
                pass

    def test_it_never_changes(self):
        made = Program({"n": 2}, *OUTER.procedures)
        for name in ("shared", "procedures", "names", "main", "words"):
            with self.assertRaises(AttributeError):
                setattr(made, name, ())
        self.assertTrue(made == OUTER)


class Copies(Case):
    def test_a_dict_that_was_passed(self):
        shared = {"y": 3, "x": 2}
        made = [Program(shared, MAIN), Program.of(shared, (MAIN,))]
        shared["z"] = 2
        shared["x"] = 4
        self.same([each.shared for each in made], [{"x": 2, "y": 3}] * 2)
        names = {"p": "q"}
        renamed = MIRROR.renamed(names)
        names["p"] = "r"
        self.same(renamed.names, ("main", "q"))

    def test_a_dict_that_was_returned(self):
        made = Program({"n": 2}, *OUTER.procedures)
        made.shared["z"] = 2
        made.shared.clear()
        made.cells_of("p")["n"] = 4
        made.cells_of("p").clear()
        self.same([made.shared, made.cells_of("p"), made == OUTER], [{"n": 2}, {"c": 2, "n": 2}, True])

    def test_the_keys_ascend(self):
        made = Program({"y": 2, "b": 2}, Procedure("main", (), own=(("z", 2), ("a", 2))))
        self.same([list(made.shared), list(made.cells_of("main"))], [["b", "y"], ["a", "b", "y", "z"]])
        more = made.with_shared("c", 2)
        self.same([list(more.shared), list(more.cells_of("main"))], [["b", "c", "y"], ["a", "b", "c", "y", "z"]])


class Changed(Case):
    """The methods that return another program."""

    def setUp(self):
        self.before = [repr((each.shared, each.names, each.procedures)) for each in (MIRROR, OUTER, HALF)]

    def tearDown(self):
        self.assertEqual([repr((each.shared, each.names, each.procedures)) for each in (MIRROR, OUTER, HALF)], self.before)

    def test_with_procedure(self):
        new = Procedure("p", (SAY,), own=(("c", 2),))
        made = OUTER.with_procedure(new)
        self.same([made.names, made["p"] == new, made["main"] == OUTER["main"], made.shared], [("main", "p"), True, True, {"n": 2}])
        more = OUTER.with_procedure(Procedure("b", (("call", "p", None, None),), quiet=True))
        self.same([more.names, more.procedures[:2] == OUTER.procedures], [("main", "p", "b"), True])
        main = OUTER.with_procedure(Procedure("main", ()))
        self.same([main.names, main.main, len(main["main"])], [("main", "p"), "main", 0])

    def test_with_procedure_that_does_not_fit(self):
        for value in ODD + ("p", "nothing", (SAY,)):
            if not isinstance(value, Procedure):
                self.fails(InvalidOperation, OUTER.with_procedure, value)
        for value in (Procedure("p", ()), Procedure("p", (), own=(("c", 3),)), Procedure("q", (("hide", "q"),)),
                      Procedure("main", (), quiet=True), Procedure("p", (("call", "main", None, None),)),
                      Procedure("q", (), own=(("n", 2),)), Procedure("q", (("call", "r", None, None),))):
            self.fails(InvalidOperation, OUTER.with_procedure, value)
        eight = Program({}, *letters(8))
        self.assertEqual(len(eight.with_procedure(Procedure("h", (SAY,)))), 8)
        self.fails(InvalidOperation, eight.with_procedure, Procedure("i", ()))

    def test_without(self):
        three = Program({"x": 2}, *letters(3))
        self.same([three.without("a").names, three.without("b").names, three.without("c").names],
                  [("b", "c"), ("a", "c"), ("a", "b")])
        self.same([three.without("a").main, three.without("a").without("b").main], ["b", "c"])
        self.assertTrue(three.without("b") == Program({"x": 2}, *three.without("b").procedures))

    def test_without_one_that_must_be_there(self):
        for name in NO_NAMES:
            self.same(self.fails(UnknownName, OUTER.without, name).name, name)
        self.fails(InvalidOperation, OUTER.without, "p")
        self.fails(InvalidOperation, HALF.without, "main")
        # The next one is called by itself, or quiet, so it cannot be main.
        self.fails(InvalidOperation, MIRROR.without, "main")
        quiet = Program({}, MAIN, Procedure("p", (), quiet=True), Procedure("q", ()))
        self.fails(InvalidOperation, quiet.without, "main")
        self.same(quiet.without("p").without("main").names, ("q",))

    def test_with_quiet(self):
        made = MIRROR.with_quiet("p", True)
        self.same([made["p"].quiet, made["p"].body == MIRROR["p"].body, made.names], [True, True, ("main", "p")])
        self.assertTrue(made.with_quiet("p", False) == MIRROR)
        self.assertTrue(made.with_quiet("p", True) == made)
        self.assertTrue(MIRROR.with_quiet("main", False) == MIRROR)
        own = OUTER.with_quiet("p", True)
        self.same([own["p"].own, own["main"] == OUTER["main"]], [(("c", 2),), True])

    def test_with_quiet_and_wrong_values(self):
        for name in NO_NAMES:
            for quiet in (True, False, None):
                self.same(self.fails(UnknownName, MIRROR.with_quiet, name, quiet).name, name)
        for quiet in ODD + (1, 0, "True", ()):
            if quiet is not True and quiet is not False:
                self.fails(InvalidOperation, MIRROR.with_quiet, "p", quiet)
        self.fails(InvalidOperation, MIRROR.with_quiet, "main", True)

    def test_with_shared(self):
        made = MIRROR.with_shared("a", 4)
        self.same([made.shared, made.procedures == MIRROR.procedures], [{"a": 4, "x": 2}, True])
        self.same(made.with_shared("m", 2).shared, {"a": 4, "m": 2, "x": 2})
        four = Program({}, MAIN).with_shared("a", 2).with_shared("b", 2).with_shared("c", 2).with_shared("d", 2)
        self.same(list(four.shared), ["a", "b", "c", "d"])
        self.fails(InvalidOperation, four.with_shared, "e", 2)

    def test_with_shared_and_wrong_values(self):
        for name in ODD + ("x", ["a"], ("a",)):
            self.fails(InvalidOperation, MIRROR.with_shared, name, 2)
            self.fails(InvalidOperation, MIRROR.with_shared, name, None)
        for size in tuple(value for value in ODD if repr(value) not in ("2", "3", "4")) + (5, "2", [2], (2,)):
            self.fails(InvalidOperation, MIRROR.with_shared, "a", size)
        # It is there, if only with the same size.
        self.fails(InvalidOperation, MIRROR.with_shared, "x", 2)
        # It is an own cell, or there are too many standings or rows.
        self.fails(InvalidOperation, OUTER.with_shared, "a", 2)
        self.fails(InvalidOperation, OUTER.with_shared, "c", 2)
        self.fails(InvalidOperation, Program({"a": 3, "b": 3}, MAIN).with_shared, "c", 2)
        big = Program({"a": 4, "b": 2}, Procedure("main", (), own=(("c", 4), ("d", 2))))
        self.fails(InvalidOperation, big.with_shared, "e", 2)

    def test_without_shared(self):
        made = Program({"x": 2, "y": 3, "z": 2}, Procedure("main", (("hide", "x"),)))
        self.same([made.without_shared("y").shared, made.without_shared("z").without_shared("y").shared],
                  [{"x": 2, "z": 2}, {"x": 2}])
        self.assertTrue(MIRROR.with_shared("q", 2).without_shared("q") == MIRROR)
        self.same(Program({"x": 2}, MAIN).without_shared("x").shared, {})

    def test_without_shared_and_wrong_values(self):
        for name in ODD + ("y", "p", "a", ["x"], ("x",)):
            self.same(self.fails(UnknownName, MIRROR.without_shared, name).name, name)
        self.same(self.fails(UnknownName, OUTER.without_shared, "a").name, "a")
        self.fails(InvalidOperation, MIRROR.without_shared, "x")
        self.fails(InvalidOperation, OUTER.without_shared, "n")

    def test_renamed(self):
        made = MIRROR.renamed({"p": "q"})
        self.same([made.names, made["main"].body, made["q"].body[0][1][0]],
                  [("main", "q"), (("call", "q", None, None),), ("call", "q", None, None)])
        self.assertTrue(made.renamed({"q": "p"}) == MIRROR)
        self.assertTrue(MIRROR.renamed({}) == MIRROR)
        self.assertTrue(MIRROR.renamed({"p": "p", "main": "main"}) == MIRROR)
        self.same(MIRROR.renamed({"main": "m"}).names, ("m", "p"))

    def test_renamed_keeps_all_else(self):
        inner = (("call", "p", "a", "b"), ("say", "p", "a"), ("ask", "p", "p"), ("set", "p", ("a", "p"), (0,) * 4))
        made = Program(
            {"p": 2},
            Procedure("main", (("if", "p", 1, (("either", inner[:2], inner[2:]),), (("often", ()),)),), own=(("a", 2), ("b", 2))),
            Procedure("p", (), own=(("q", 2),), quiet=True),
        ).renamed({"p": "q"})
        due = (("call", "q", "a", "b"),) + inner[1:]
        self.same(made["main"].body, (("if", "p", 1, (("either", due[:2], due[2:]),), (("often", ()),)),))
        self.same([made["q"].own, made["q"].quiet, made.shared], [(("q", 2),), True, {"p": 2}])

    def test_renamed_in_turn(self):
        three = Program({}, MAIN, Procedure("p", (("call", "q", None, None),)), Procedure("q", (("call", "p", None, None), SAY)))
        made = three.renamed({"p": "q", "q": "p"})
        self.same([made.names, made["q"].body, made["p"].body],
                  [("main", "q", "p"), (("call", "p", None, None),), (("call", "q", None, None), SAY)])
        self.same(three.renamed({"p": "main", "main": "p"}).names, ("p", "main", "q"))

    def test_renamed_and_wrong_values(self):
        wrong = ODD + (
            {"p": "main"}, {"main": "p"}, {"nothing": "q"}, {"p": "q", "nothing": "r"}, {"p": "P"}, {"p": ""},
            {"p": None}, {"p": 1}, {"p": "abcdefghi"}, {"p": ["q"]}, {"p": "q", "main": "q"}, {("p",): "q"}, {1: "q"},
            {None: "q"}, (("p", "q"),), [("p", "q")], "p",
        )
        for names in wrong:
            self.fails(InvalidOperation, MIRROR.renamed, names)
