"""The interface: each name stands in the file that lists it, each method in its class itself."""

import inspect

from showncalls import errors
from showncalls.base import facts, programs, words
from showncalls.compare import alike, more, parts
from showncalls.compare import silent as quiet
from showncalls.give import counts, ends, left, papers
from showncalls.house import project as projects
from showncalls.know import knowings, silent, tables, watchers
from showncalls.run import runs
from showncalls.text import shell as shells
from showncalls.text import texts
from tests.helper import MIRROR, Case

CLASS_METHODS = {
    facts.Fact: ("every", "where", "alike"), programs.Program: ("of",), runs.Run: ("of",), watchers.Watcher: ("along",),
    shells.Shell: ("replayed",),
}
PROPERTIES = {
    facts.Fact: ("cells", "standings"),
    programs.Procedure: ("called", "body", "own", "quiet"),
    programs.Program: ("shared", "procedures", "names", "main", "words"),
    runs.Run: ("program", "start", "choices", "log", "situations", "situation", "standing", "is_shown"),
    watchers.Watcher: ("program", "log", "knowing", "can_stand"),
    tables.Table: ("program", "contexts"),
    left.Left: ("program", "sets", "end_sets", "fewest"),
    projects.Project: ("program", "promises", "deeds"),
    shells.Shell: ("names", "programs", "script"),
}
METHODS = {
    facts.Fact: {
        "numbers": ("name",), "is_within": ("other",), "without": ("name",), "over": ("cells",),
        "__and__": None, "__or__": None, "__sub__": None, "__invert__": None, "__contains__": None,
        "__len__": None, "__bool__": None, "__eq__": None, "__str__": None,
    },
    programs.Procedure: {"__eq__": None, "__len__": None, "__str__": None},
    programs.Program: {
        "cells_of": ("name",), "begins": ("name",), "statement": ("name", "place"), "behind": ("name", "place"),
        "into": ("name", "place", "index"), "with_procedure": ("procedure",), "without": ("name",),
        "with_quiet": ("name", "quiet"), "with_shared": ("name", "size"), "without_shared": ("name",),
        "renamed": ("names",), "__getitem__": None, "__contains__": None, "__len__": None, "__eq__": None,
        "__str__": None,
    },
    runs.Run: {
        "next_moves": (), "back": ("many",), "shown": (), "__add__": None, "__len__": None, "__eq__": None,
        "__str__": None,
    },
    watchers.Watcher: {
        "see": ("line",), "lines": (), "knows": ("fact",), "answer": ("fact",), "run": ("standing",), "back": ("many",),
        "trial": (), "during": ("call",), "twin": (), "__call__": ("line",), "__len__": None, "__eq__": None,
        "__str__": None,
    },
    tables.Table: {
        "as_dict": (), "shortest_log": ("context", "knowing"), "log_length": ("context", "knowing"), "bars": ("fact",),
        "__getitem__": None, "__contains__": None, "__len__": None, "__eq__": None, "__str__": None,
    },
    left.Left: {
        "length_for": ("fact", "at_end"), "log_for": ("fact", "at_end"), "numbers": ("name",), "__contains__": None,
        "__len__": None, "__eq__": None, "__str__": None,
    },
    projects.Project: {
        "promise": ("name", "parts"), "forget": ("name",), "put": ("procedure",), "drop": ("name",), "hush": ("name", "quiet"),
        "undo": ("many",), "redo": ("many",), "trial": (), "during": ("call",), "twin": (), "__getitem__": None,
        "__contains__": None, "__len__": None, "__eq__": None, "__str__": None,
    },
    shells.Shell: {
        "run": ("command",), "__call__": ("command",), "__contains__": None, "__len__": None, "__eq__": None, "__str__": None,
    },
}
NAMES = {
    errors: ("CallError", "InvalidFact", "InvalidProgram", "InvalidLog", "InvalidRun", "InvalidKnowing",
             "InvalidTable", "InvalidOperation", "InvalidCommand", "ParseError", "UnknownName", "InvalidNumber",
             "NothingToUndo", "Unseen", "Refused", "TooMany"),
    words: ("is_name", "is_line", "is_log", "open_calls", "rows"),
    facts: ("Fact",),
    programs: ("Procedure", "Program"),
    texts: ("write_program", "write_log", "read_program", "read_log"),
    runs: ("is_situation", "moves", "Run"),
    silent: ("passages", "nows", "is_stuck"),
    knowings: ("is_knowing", "first_knowing", "spoken", "entered", "ends", "joined", "possible", "final"),
    watchers: ("is_log_of", "Watcher"),
    tables: ("is_table", "is_closed", "Table"),
    left: ("Left",),
    papers: ("fact_paper", "is_fact_paper"),
    ends: ("is_settled", "settled_paper", "is_settled_paper", "settled_classes"),
    counts: ("count_logs", "count_known", "logs"),
    alike: ("are_alike", "alike_paper", "is_alike_paper"),
    more: ("gives_no_more", "more_paper", "is_more_paper"),
    quiet: ("is_stuck_run", "is_silent", "silent_paper", "is_silent_paper"),
    parts: ("is_part", "parts_of", "without_parts", "cut_log", "for_words", "greatest_shown"),
    projects: ("Project",),
    shells: ("Shell",),
}


class Interface(Case):
    def test_each_name_is_defined_in_its_file(self):
        for module, listed in NAMES.items():
            for name in listed:
                self.assertEqual(getattr(module, name).__module__, module.__name__)

    def test_each_method_stands_in_its_class(self):
        for made, listed in METHODS.items():
            for name, parameters in listed.items():
                self.assertTrue(inspect.isfunction(vars(made)[name]), name)
                if parameters is not None:
                    self.assertEqual(tuple(inspect.signature(vars(made)[name]).parameters)[1:], parameters)

    def test_each_class_method_and_property_stands_in_its_class(self):
        for made, listed in CLASS_METHODS.items():
            for name in listed:
                self.assertIsInstance(vars(made)[name], classmethod)
        for made, listed in PROPERTIES.items():
            for name in listed:
                self.assertIsInstance(vars(made)[name], property)

    def test_parameters(self):
        due = {
            facts.Fact: "(cells, standings=())", facts.Fact.every: "(cells)", facts.Fact.where: "(cells, numbers)",
            facts.Fact.alike: "(cells, one, other)", programs.Procedure: "(called, body, *, own=(), quiet=False)",
            programs.Program: "(shared, *procedures)", programs.Program.of: "(shared, procedures)",
            words.is_name: "(value)", words.is_line: "(value)", words.is_log: "(value)",
            words.open_calls: "(log)", words.rows: "(sizes)",
            texts.write_program: "(program)", texts.write_log: "(log)", texts.read_program: "(text)",
            texts.read_log: "(text)", runs.is_situation: "(program, value)", runs.moves: "(program, situation)",
            runs.Run: "(program, start, *choices)", runs.Run.of: "(program, start, choices)",
            runs.Run.back: "(self, *, many=1)", silent.passages: "(program, name)", silent.nows: "(program, name, now)",
            silent.is_stuck: "(program, name, now)", knowings.is_knowing: "(program, value)",
            knowings.first_knowing: "(program, name, begins)", knowings.spoken: "(program, knowing)",
            knowings.entered: "(program, knowing)", knowings.ends: "(program, knowing)",
            knowings.joined: "(program, kept, name, given)", knowings.possible: "(program, knowing)",
            knowings.final: "(program, knowing)", watchers.is_log_of: "(program, value)", watchers.Watcher: "(program)",
            watchers.Watcher.along: "(program, log)", watchers.Watcher.back: "(self, *, many=1)",
            tables.is_table: "(program, value)", tables.is_closed: "(program, value)",
            tables.Table: "(program, *, limit=400)", left.Left: "(program)",
            left.Left.length_for: "(self, fact, *, at_end=False)", left.Left.log_for: "(self, fact, *, at_end=False)",
            papers.fact_paper: "(program, fact)", papers.is_fact_paper: "(program, fact, value)",
            ends.is_settled: "(program, fact)", ends.settled_paper: "(program, fact)",
            ends.is_settled_paper: "(program, fact, value)", ends.settled_classes: "(program)",
            counts.count_logs: "(program, many)", counts.count_known: "(program, fact, many)", counts.logs: "(program, many)",
            alike.are_alike: "(one, other)", alike.alike_paper: "(one, other)", alike.is_alike_paper: "(one, other, value)",
            quiet.is_stuck_run: "(program, start, choices)", quiet.is_silent: "(program)", quiet.silent_paper: "(program)",
            quiet.is_silent_paper: "(program, value)", parts.is_part: "(program, value)", parts.parts_of: "(program)",
            parts.without_parts: "(program, parts)", parts.cut_log: "(program, parts, log)", parts.for_words: "(program, words)",
            parts.greatest_shown: "(program, parts, facts)", projects.Project: "(program)",
            projects.Project.promise: "(self, name, *parts)", projects.Project.undo: "(self, *, many=1)",
            projects.Project.redo: "(self, *, many=1)", shells.Shell: "()", shells.Shell.replayed: "(script)",
            more.gives_no_more: "(one, other)", more.more_paper: "(one, other)", more.is_more_paper: "(one, other, value)",
        }
        for called, text in due.items():
            self.assertEqual(str(inspect.signature(called)), text)

    def test_constants(self):
        self.same([runs.MAX_MOVES, tables.MAX_KNOWINGS, counts.MAX_LINES, parts.MAX_PARTS, shells.MAX_PROGRAMS],
                  [1000, 400, 40, 4, 8])

    def test_equal_calls_return_equal_results(self):
        for call in (MIRROR.begins, MIRROR.cells_of):
            self.same(call("p"), call("p"))
        self.same([MIRROR.shared, MIRROR.words], [MIRROR.shared, MIRROR.words])
