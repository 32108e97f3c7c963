"""[0.8], [0.9], and the class Procedure: the form of procedures, whatever program they stand in."""

from showncalls.base.programs import Procedure
from showncalls.errors import InvalidProgram
from tests.helper import DEEP, HUGE, MIRROR, ODD, OUTER, Case, nested

SAY = ("say", "w", None)
# Statements of each kind, at the bounds of what their form allows.
STATEMENTS = (
    ("set", "c", (), (0,)), ("set", "c", (), (3,)), ("set", "c", ("c",), (0, 1)), ("set", "c", ("a", "b"), (0,) * 16),
    ("set", "c", ("b", "a"), (3, 2, 1, 0)), ("set", "abcdefgh", ("z",), (0,)), ("set", "c", (), (0, 0)),
    ("hide", "c"), ("ask", "w", "c"), ("ask", "abcdefgh", "z"), ("say", "w", "c"), ("say", "w", None), ("say", "c", "c"),
    ("call", "p", None, None), ("call", "p", "c", None), ("call", "p", None, "c"), ("call", "p", "c", "c"),
    ("call", "main", "c", "d"), ("if", "c", 0, (), ()), ("if", "c", 3, (SAY,), (SAY, SAY)),
    ("either", (), ()), ("either", (SAY,), (SAY,)), ("often", ()), ("often", (SAY,)),
    ("set", "set", ("if", "often"), (0,)), ("say", "say", "say"),
)
NO_STATEMENTS = ODD + (
    (), ("set",), ("set", "c", (), ()), ("set", "c", (), (0,) * 17), ("set", "c", (), (4,)), ("set", "c", (), (-1,)),
    ("set", "c", (), (True,)), ("set", "c", (), (False,)), ("set", "c", (), (None,)), ("set", "c", (), (HUGE,)),
    ("set", "c", (), [0]), ("set", "c", (), 0), ("set", "c", [], (0,)), ("set", "c", "a", (0,)), ("set", "c", None, (0,)),
    ("set", "c", ("a", "b", "d"), (0,)), ("set", "c", ("a", "a"), (0,)), ("set", "c", ("A",), (0,)),
    ("set", "c", (1,), (0,)), ("set", "c", (None,), (0,)), ("set", "c", (["a"],), (0,)), ("set", "C", (), (0,)),
    ("set", None, (), (0,)), ("set", "c", ()), ("set", "c", (), (0,), ()),
    ("hide",), ("hide", None), ("hide", "C"), ("hide", "c", "c"), ("hide", "abcdefghi"), ("hide", ""), ["hide", "c"],
    ("ask", "w"), ("ask", "w", None), ("ask", "W", "c"), ("ask", None, "c"), ("ask", "w", "c", 0), ("ask", "w", 1),
    ("say", "w"), ("say", None, "c"), ("say", "w", 1), ("say", "w", False), ("say", "w", ()), ("say", "w", "c", "c"),
    ("call", "p"), ("call", "p", None), ("call", None, None, None), ("call", "p", 0, None), ("call", "p", None, False),
    ("call", "p", None, None, None), ("call", "P", None, None), ("call", "p", ("c",), None), ("call", "p", "", None),
    ("if", "c", 4, (), ()), ("if", "c", -1, (), ()), ("if", "c", True, (), ()), ("if", "c", False, (), ()),
    ("if", "c", None, (), ()), ("if", None, 0, (), ()), ("if", "c", 0, ()), ("if", "c", 0, (), (), ()),
    ("if", "c", 0, [], ()), ("if", "c", 0, (), []), ("if", "c", 0, None, ()), ("if", "c", 0, SAY, ()),
    ("if", "c", HUGE, (), ()), ("either", ()), ("either", (), (), ()), ("either", [], ()), ("either", (), [SAY]),
    ("either", (), SAY), ("often",), ("often", (), ()), ("often", []), ("often", None), ("often", SAY),
    ("often", (SAY, ("say", "w"))), ("both", "c"), ("Set", "c", (), (0,)), ("", "c"), ("enter", "p"),
    (None, "c"), (["hide"], "c"), (("hide",), "c"), (MIRROR, "c"), ({}, "c"), (0, "c"), ("hide", MIRROR),
)
NO_NAMES = ODD + (("p",), ["p"], "P", "p q", "p\n", "procedur3", "abcdefghi", b"p")
NO_OWN = ODD + (
    [], [("a", 2)], ("a", 2), (("a", 2), ("b", 2), ("c", 2)), (("a", 2), ("a", 2)), (("a", 2), ("a", 3)), (("a", 1),),
    (("a", 5),), (("a", True),), (("a", None),), (("a", HUGE),), (("a",),), (("a", 2, 2),), (["a", 2],), (("A", 2),),
    (("", 2),), (("abcdefghi", 2),), ((1, 2),), ((None, 2),), {"a": 2}, (("a", "2"),), (("a", 2), None), ((["a"], 2),),
)


def inside(statement, depth):
    """A body, so many bodies deep, with the statement in the innermost one."""
    body = (statement,)
    for turn in range(depth - 1):
        body = ((("either", (), body),), (("often", body),), (("if", "c", 1, body, ()),))[turn % 3]
    return body


class Form(Case):
    def test_statements(self):
        for statement in STATEMENTS:
            self.same(Procedure("p", (statement,)).body, (statement,))
            self.same(Procedure("p", (SAY, statement, SAY)).body, (SAY, statement, SAY))

    def test_no_statements(self):
        for value in NO_STATEMENTS:
            for body in ((value,), (SAY, value), (("often", (value,)),), (("either", (), (SAY, value)),)):
                self.fails(InvalidProgram, Procedure, "p", body)

    def test_names(self):
        for name in ("a", "p", "main", "abcdefgh", "set"):
            self.assertEqual(Procedure(name, ()).called, name)

    def test_no_names(self):
        for name in NO_NAMES:
            self.fails(InvalidProgram, Procedure, name, ())

    def test_no_bodies(self):
        for body in ODD + ([], [SAY], SAY, "say", {"say": SAY}, (SAY, None), ((SAY,),)):
            self.fails(InvalidProgram, Procedure, "p", body)

    def test_own(self):
        for own in ((), (("a", 2),), (("a", 4), ("b", 2)), (("b", 2), ("a", 3)), (("p", 3),)):
            self.same(Procedure("p", (), own=own).own, own)

    def test_no_own(self):
        for own in NO_OWN:
            self.fails(InvalidProgram, Procedure, "p", (), own=own)

    def test_quiet(self):
        self.same([Procedure("p", (), quiet=True).quiet, Procedure("p", (), quiet=False).quiet], [True, False])
        for quiet in ODD + ((), "True", 1, 0, [True], (True,)):
            if quiet is not True and quiet is not False:
                self.fails(InvalidProgram, Procedure, "p", (), quiet=quiet)

    def test_several_wrong(self):
        for wrong in ODD[:1] + ODD[4:8]:
            self.fails(InvalidProgram, Procedure, wrong, wrong)
            self.fails(InvalidProgram, Procedure, wrong, wrong, own=wrong, quiet=wrong)

    def test_own_and_quiet_are_keywords(self):
        with self.assertRaises(TypeError):
            Procedure("p", (), ())
        made = Procedure("p", (), quiet=True, own=(("a", 2),))
        self.same([made.own, made.quiet], [(("a", 2),), True])

    def test_without_keywords(self):
        self.same([Procedure("p", ()).own, Procedure("p", ()).quiet], [(), False])

    def test_tables(self):
        for table in ((0,), (3, 0), (0, 1, 2, 3) * 4):
            self.assertEqual(len(Procedure("p", (("set", "c", ("d",), table),))), 1)
        for table in ((), (4,), (0, 4), (4, 0), (0, 1, None), (0, True), (1, "0"), (0, (1,)), (0, -1), [0, 1], (0,) * 17, (0,) * 15 + (4,)):
            self.fails(InvalidProgram, Procedure, "p", (("set", "c", ("d",), table),))

    def test_other_cells_and_procedures_do_not_matter(self):
        made = Procedure("p", (("set", "x", ("y", "z"), (3,)), ("call", "q", "r", "s"), ("if", "a", 3, (), ()),
                               ("ask", "w", "a"), ("ask", "w", "b"), ("call", "p", "a", None)), own=(("a", 2), ("b", 3)))
        self.assertEqual(len(made), 6)


class Bounds(Case):
    def test_three_deep(self):
        for statement in (SAY, ("hide", "c"), ("call", "p", None, None)):
            for depth in (1, 2, 3):
                self.assertEqual(len(Procedure("p", inside(statement, depth))), depth)
            for depth in (4, 5, 7, 40):
                self.fails(InvalidProgram, Procedure, "p", inside(statement, depth))

    def test_an_empty_body_is_a_body_too(self):
        for statement in (("often", ()), ("either", (), ()), ("if", "c", 0, (), ())):
            self.assertEqual(len(Procedure("p", inside(statement, 2))), 2)
            self.fails(InvalidProgram, Procedure, "p", inside(statement, 3))

    def test_twenty_four_statements(self):
        inner = (SAY,) * 5
        bodies = (
            (SAY,) * 24,
            (("often", (SAY,) * 23),),
            (("either", inner, inner), ("if", "c", 0, inner, inner), SAY, SAY),
            (("either", (("often", inner), ("often", inner)), (("often", inner),)), SAY, SAY, SAY, SAY, SAY),
        )
        for body in bodies:
            self.assertEqual(len(Procedure("p", body)), 24)
            self.fails(InvalidProgram, Procedure, "p", body + (SAY,))
            self.fails(InvalidProgram, Procedure, "p", (("hide", "c"),) + body)
        self.fails(InvalidProgram, Procedure, "p", (("often", (SAY,) * 24),))
        self.fails(InvalidProgram, Procedure, "p", (SAY,) * 1000)

    def test_no_statements_at_all(self):
        self.same([len(Procedure("p", ())), len(Procedure("p", (("either", (), ()),)))], [0, 1])

    def test_deep_values_that_are_shared(self):
        # As a tree this has far more statements than fit into memory.
        body = (SAY,)
        for _ in range(40):
            body = (("either", body, body),)
        with self.assertRaises(InvalidProgram):
            Procedure("p", body)

    def test_nested_values(self):
        for many in range(1, 16):
            self.fails(InvalidProgram, Procedure, "p", (nested(SAY, many),))
            self.fails(InvalidProgram, Procedure, "p", (("often", nested((SAY,), many)),))


class Reading(Case):
    def test_equality(self):
        made = Procedure("p", (SAY,), own=(("a", 2), ("b", 2)), quiet=True)
        self.assertTrue(made == Procedure("p", (SAY,), own=(("a", 2), ("b", 2)), quiet=True))
        self.assertFalse(made != Procedure("p", (SAY,), own=(("a", 2), ("b", 2)), quiet=True))
        others = (
            Procedure("q", (SAY,), own=(("a", 2), ("b", 2)), quiet=True),
            Procedure("p", (), own=(("a", 2), ("b", 2)), quiet=True),
            Procedure("p", (SAY,), own=(("b", 2), ("a", 2)), quiet=True),
            Procedure("p", (SAY,), own=(("a", 2), ("b", 3)), quiet=True),
            Procedure("p", (SAY,), quiet=True),
            Procedure("p", (SAY,), own=(("a", 2), ("b", 2))),
        )
        for other in others + ODD + ("p", ("p", (SAY,), (("a", 2), ("b", 2)), True)):
            self.assertIs(made == other, False)
            self.assertIs(made != other, True)

    def test_text(self):
        self.same([str(Procedure("p", ())), str(Procedure("q", (SAY,))), str(OUTER["p"]), str(DEEP["p"])],
                  ["procedure p, 0 statements", "procedure q, 1 statements", "procedure p, 2 statements",
                   "procedure p, 4 statements"])

    def test_no_iteration(self):
        for call in (iter, list, tuple, sorted):
            with self.assertRaises(TypeError):
                call(MIRROR["p"])

    def test_it_never_changes(self):
        made = Procedure("p", (SAY,))
        for name in ("called", "body", "own", "quiet"):
            with self.assertRaises(AttributeError):
                setattr(made, name, ())
        self.assertTrue(made == Procedure("p", (SAY,)))
