"""What several tests use: the programs of the document's examples, wrong values, and a check of errors."""

import unittest

from showncalls.base.facts import Fact
from showncalls.base.programs import Procedure, Program
from showncalls.errors import InvalidFact, UnknownName

MIRROR = Program({"x": 2}, Procedure("main", (("call", "p", None, None),)), Procedure("p", (("either", (("call", "p", None, None), ("set", "x", ("x",), (1, 0))), (("say", "at", "x"),)),)))
DEEP = Program({"c": 4, "x": 2}, Procedure("main", (("set", "c", (), (0,)), ("call", "p", None, None))), Procedure("p", (("if", "c", 3, (("say", "at", "x"),), (("set", "c", ("c",), (1, 2, 3, 0)), ("call", "p", None, None))),)))
OUTER = Program({"n": 2}, Procedure("main", (("hide", "a"), ("call", "p", "a", None), ("set", "n", ("a",), (0, 1)), ("say", "end", None)), own=(("a", 2),)), Procedure("p", (("if", "c", 1, (("say", "one", None),), ()),), own=(("c", 2),)))
HALF = Program({"k": 2, "x": 2}, Procedure("main", (("set", "s", ("k", "x"), (0, 1, 1, 0)), ("say", "a", "s"), ("say", "b", "k")), own=(("s", 2),)))

HUGE = 10 ** 40 - 1


def nested(value, many):
    """The value inside so many tuples, lists and dicts, in turn."""
    for turn in range(many):
        value = ((value,), [value], {"x": value})[turn % 3]
    return value


# Values of all kinds that [0.4] names; none of them is a name, a cell dict with cells, a body or a log.
ODD = (
    None, True, False, 0, 1, 2, 3, 4, -1, HUGE, -HUGE,
    "", "A", "a1", "a b", "a\n", "abcdefghi", "~", " ", "_",
    (1,), (None,), ("a", "b"), ((),), (((),),), ("enter",), (("enter",),), ("set", "x"),
    [], [1], ["x"], [("x", 2)], [[]], [()],
    {1: 2}, {None: 2}, {(): 2}, {"": 2}, {"x": True}, {"x": 1}, {"x": 5}, {"x": None}, {"X": 2}, {True: 2},
    nested(1, 15), nested((), 14), nested("x", 13),
    Fact({}), Fact({"x": 2}, ((1,),)), MIRROR, MIRROR["p"], InvalidFact("message"), UnknownName("q"),
)


class Case(unittest.TestCase):
    """A test case that can ask for an error of just one class."""

    def fails(self, error, call, *args, **named):
        """The error that a call raises, which is just of this class and leaves the arguments as they are."""
        before = repr((args, named))
        with self.assertRaises(error, msg=before) as caught:
            call(*args, **named)
        self.assertIs(caught.exception.__class__, error)
        self.assertEqual(repr((args, named)), before)
        return caught.exception

    def same(self, value, due):
        """Both are equal, also in their kinds (True is not 1), and in the order of the keys of dicts."""
        self.assertEqual(repr(value), repr(due))
