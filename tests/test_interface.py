"""The interface: each name stands in the file that lists it, each method in its class itself."""

import inspect

from showncalls import errors
from showncalls.base import facts, programs, words
from tests.helper import MIRROR, Case

CLASS_METHODS = {facts.Fact: ("every", "where", "alike"), programs.Program: ("of",)}
PROPERTIES = {
    facts.Fact: ("cells", "standings"),
    programs.Procedure: ("called", "body", "own", "quiet"),
    programs.Program: ("shared", "procedures", "names", "main", "words"),
}
METHODS = {
    facts.Fact: {
        "numbers": ("name",), "is_within": ("other",), "without": ("name",), "over": ("cells",),
        "__and__": None, "__or__": None, "__sub__": None, "__invert__": None, "__contains__": None,
        "__len__": None, "__bool__": None, "__eq__": None, "__str__": None,
    },
    programs.Procedure: {"__eq__": None, "__len__": None, "__str__": None},
    programs.Program: {
        "cells_of": ("name",), "begins": ("name",), "statement": ("name", "place"), "behind": ("name", "place"),
        "into": ("name", "place", "index"), "with_procedure": ("procedure",), "without": ("name",),
        "with_quiet": ("name", "quiet"), "with_shared": ("name", "size"), "without_shared": ("name",),
        "renamed": ("names",), "__getitem__": None, "__contains__": None, "__len__": None, "__eq__": None,
        "__str__": None,
    },
}
NAMES = {
    errors: ("CallError", "InvalidFact", "InvalidProgram", "InvalidLog", "InvalidRun", "InvalidKnowing",
             "InvalidTable", "InvalidOperation", "InvalidCommand", "ParseError", "UnknownName", "InvalidNumber",
             "NothingToUndo", "Unseen", "Refused", "TooMany"),
    words: ("is_name", "is_line", "is_log", "open_calls", "rows"),
    facts: ("Fact",),
    programs: ("Procedure", "Program"),
}


class Interface(Case):
    def test_each_name_is_defined_in_its_file(self):
        for module, listed in NAMES.items():
            for name in listed:
                self.assertEqual(getattr(module, name).__module__, module.__name__)

    def test_each_method_stands_in_its_class(self):
        for made, listed in METHODS.items():
            for name, parameters in listed.items():
                self.assertTrue(inspect.isfunction(vars(made)[name]), name)
                if parameters is not None:
                    self.assertEqual(tuple(inspect.signature(vars(made)[name]).parameters)[1:], parameters)

    def test_each_class_method_and_property_stands_in_its_class(self):
        for made, listed in CLASS_METHODS.items():
            for name in listed:
                self.assertIsInstance(vars(made)[name], classmethod)
        for made, listed in PROPERTIES.items():
            for name in listed:
                self.assertIsInstance(vars(made)[name], property)

    def test_parameters(self):
        due = {
            facts.Fact: "(cells, standings=())", facts.Fact.every: "(cells)", facts.Fact.where: "(cells, numbers)",
            facts.Fact.alike: "(cells, one, other)", programs.Procedure: "(called, body, *, own=(), quiet=False)",
            programs.Program: "(shared, *procedures)", programs.Program.of: "(shared, procedures)",
            words.is_name: "(value)", words.is_line: "(value)", words.is_log: "(value)",
            words.open_calls: "(log)", words.rows: "(sizes)",
        }
        for called, text in due.items():
            self.assertEqual(str(inspect.signature(called)), text)

    def test_equal_calls_return_equal_results(self):
        for call in (MIRROR.begins, MIRROR.cells_of):
            self.same(call("p"), call("p"))
        self.same([MIRROR.shared, MIRROR.words], [MIRROR.shared, MIRROR.words])
