"""The examples of the document, as they stand there."""

import doctest

from showncalls.base import facts, programs, words
from showncalls.compare import alike, more, parts
from showncalls.compare import silent as quiet
from showncalls.give import counts, ends, left, papers
from showncalls.house import project as projects
from showncalls.know import knowings, silent, tables, watchers
from showncalls.run import runs
from showncalls.text import shell as shells
from showncalls.text import texts
from tests.helper import Case

EXAMPLES = '''
>>> MIRROR = Program({"x": 2}, Procedure("main", (("call", "p", None, None),)), Procedure("p", (("either", (("call", "p", None, None), ("set", "x", ("x",), (1, 0))), (("say", "at", "x"),)),)))
>>> DEEP = Program({"c": 4, "x": 2}, Procedure("main", (("set", "c", (), (0,)), ("call", "p", None, None))), Procedure("p", (("if", "c", 3, (("say", "at", "x"),), (("set", "c", ("c",), (1, 2, 3, 0)), ("call", "p", None, None))),)))
>>> OUTER = Program({"n": 2}, Procedure("main", (("hide", "a"), ("call", "p", "a", None), ("set", "n", ("a",), (0, 1)), ("say", "end", None)), own=(("a", 2),)), Procedure("p", (("if", "c", 1, (("say", "one", None),), ()),), own=(("c", 2),)))
>>> HALF = Program({"k": 2, "x": 2}, Procedure("main", (("set", "s", ("k", "x"), (0, 1, 1, 0)), ("say", "a", "s"), ("say", "b", "k")), own=(("s", 2),)))
'''

STAGE_1 = '''
>>> LOG = (("enter", "main"), ("enter", "p"), ("say", "at", 1), ("leave", "p"))
>>> [is_line(("say", "at", 4)), is_log(LOG), is_log(LOG + (("leave", "p"),)), open_calls(LOG[:3]), list(rows((2, 1, 2)))]
[False, True, False, ('main', 'p'), [(0, 0, 0), (0, 0, 1), (1, 0, 0), (1, 0, 1)]]
'''

STAGE_2 = '''
>>> CELLS = {"x": 2, "y": 3}
>>> ONE, SAME = Fact.where(CELLS, {"x": 1}), Fact.alike(CELLS, "x", "y")
>>> [ONE.standings, SAME.standings, (ONE & SAME).standings, len(ONE | SAME), (~ONE).numbers("y"), (ONE & SAME).is_within(ONE)]
[((1, 0), (1, 1), (1, 2)), ((0, 0), (1, 1)), ((1, 1),), 4, (0, 1, 2), True]
>>> [SAME.without("x").standings, Fact({"x": 2}, ((1,),)).over(CELLS) == ONE, str(ONE - SAME)]
[((0,), (1,)), True, 'fact of 2 standings']
'''

STAGE_3 = '''
>>> [MIRROR.main, MIRROR.words, MIRROR.statement("p", 3), MIRROR.behind("p", 1), MIRROR.behind("p", 2), OUTER.begins("p")]
['main', ('at',), ('say', 'at', 'x'), 2, 4, (((0,), (0,)), ((0,), (1,)), ((1,), (0,)), ((1,), (1,)))]
>>> [OUTER.cells_of("p"), OUTER.into("p", 0, 0), OUTER.into("p", 0, 1), str(DEEP), len(DEEP["p"])]
[{'c': 2, 'n': 2}, 1, 2, 'program of 2 procedures, 2 shared cells', 4]
'''

STAGE_4 = r'''
>>> write_program(OUTER).split("\n")[:6]
['shared n 2', 'procedure main', 'own a 2', '  hide a', '  call p with a', '  set n by a to 0 1']
>>> [read_program(write_program(MIRROR)) == MIRROR, write_log(LOG).split("\n"), read_log("enter main")]
[True, ['enter main', 'enter p', 'say at 1', 'leave p'], (('enter', 'main'),)]
'''

STAGE_5 = '''
>>> run = Run(OUTER, (0,), 1, 0, 0, 0)
>>> [run.log, run.situation, run.is_shown, [line for line, behind in run.next_moves()], (run + 0).log[-1], str(run)]
[(('enter', 'main'), ('enter', 'p'), ('say', 'one')), ((0,), (('main', 1, (1,)), ('p', 2, (1,)))), True, [('leave', 'p')], ('leave', 'p'), 'run of 4 moves, 3 lines']
>>> moves(MIRROR, ((1,), (("main", 0, ()), ("p", 0, ()))))
((None, ((1,), (('main', 0, ()), ('p', 1, ())))), (None, ((1,), (('main', 0, ()), ('p', 3, ())))))
'''

STAGE_6 = '''
>>> LOST = Program({"x": 2}, Procedure("main", (("if", "x", 1, (("call", "q", None, None),), ()), ("say", "w", None))), Procedure("q", (("call", "q", None, None),), quiet=True))
>>> [nows(LOST, "main", (0, (0,), ())), nows(LOST, "main", (0, (1,), ())), is_stuck(LOST, "main", (0, (1,), ())), passages(LOST, "q")]
[((0, (0,), ()), (2, (0,), ())), ((0, (1,), ()), (1, (1,), ())), True, {((0,), ()): (), ((1,), ()): ()}]
>>> TURNS = Program({"x": 2}, Procedure("main", (("call", "p", None, None), ("say", "at", "x"))), Procedure("p", (("either", (("call", "p", None, None), ("set", "x", ("x",), (1, 0))), ()),), quiet=True))
>>> [passages(TURNS, "p"), nows(TURNS, "main", (0, (0,), ()))]
[{((0,), ()): (((0,), ()), ((1,), ())), ((1,), ()): (((0,), ()), ((1,), ()))}, ((0, (0,), ()), (1, (0,), ()), (1, (1,), ()))]
'''

STAGE_7 = '''
>>> start = first_knowing(OUTER, "main", OUTER.begins("main"))
>>> [spoken(OUTER, start), entered(OUTER, start)["p"][1], possible(OUTER, start).standings]
[{}, (((0,), (0,)), ((0,), (1,)), ((1,), (0,)), ((1,), (1,))), ((0,), (1,))]
>>> inner = first_knowing(OUTER, "p", entered(OUTER, start)["p"][1])
>>> one = spoken(OUTER, inner)[("say", "one")]
>>> [one[1][0], ends(OUTER, one), len(ends(OUTER, inner))]
[(((0,), (1,)), (2, (0,), (1,))), ((((0,), (1,)), ((0,), (1,))), (((1,), (1,)), ((1,), (1,)))), 2]
>>> joined(OUTER, entered(OUTER, start)["p"][0], "p", ends(OUTER, one))
('main', ((((0,), (0,)), (2, (0,), (1,))), (((1,), (0,)), (2, (1,), (1,)))))
'''

STAGE_8 = '''
>>> watcher = Watcher(OUTER)
>>> [watcher.lines(), watcher(("enter", "p")), watcher.lines(), watcher(("say", "one")), watcher(("leave", "p")), watcher(("say", "end"))]
[(('enter', 'p'),), None, (('leave', 'p'), ('say', 'one')), None, None, None]
>>> [watcher.can_stand.standings, watcher.answer(Fact.where({"n": 2}, {"n": 1})), watcher.run((1,)).log == watcher.log, watcher.back(many=4), len(watcher.can_stand)]
[((1,),), 'surely', True, 1, 2]
'''

STAGE_9 = '''
>>> table = Table(MIRROR)
>>> [table.contexts, str(table), is_closed(MIRROR, table.as_dict()), table.bars(Fact.where({"x": 2}, {"x": 1}))]
[(('main', (((0,), ()), ((1,), ()))), ('p', (((0,), ()), ((1,), ())))), 'table of 2 contexts, 12 knowings', True, False]
'''

STAGE_10 = '''
>>> deep = Left(DEEP)
>>> [[fact.standings for fact in deep.sets], deep.fewest, deep.numbers("x"), deep.length_for(Fact.where(DEEP.shared, {"x": 1}))]
[[((0, 0), (0, 1)), ((1, 0), (1, 1)), ((2, 0), (2, 1)), ((3, 0),), ((3, 1),)], 1, ((0,), (1,)), 6]
>>> [len(Left(HALF)), Left(OUTER).length_for(Fact.where({"n": 2}, {"n": 0})), Left(OUTER).log_for(Fact.where({"n": 2}, {"n": 1}))[2:]]
[4, 4, (('say', 'one'), ('leave', 'p'), ('say', 'end'))]
'''

STAGE_11 = '''
>>> [fact_paper(MIRROR, Fact.where({"x": 2}, {"x": 1})), fact_paper(MIRROR, Fact({"x": 2}))[0]]
[('known', (('enter', 'main'), ('enter', 'p'), ('say', 'at', 1))), 'never']
'''

STAGE_12 = '''
>>> [is_settled(OUTER, Fact.where({"n": 2}, {"n": 1})), [fact.standings for fact in settled_classes(HALF)]]
[True, [((0, 0),), ((0, 1),), ((1, 0),), ((1, 1),)]]
'''

STAGE_13 = '''
>>> [[count_logs(MIRROR, many) for many in range(5)], count_known(MIRROR, Fact.where({"x": 2}, {"x": 1}), 4), list(logs(OUTER, 3))]
[[0, 1, 1, 3, 5], 2, [(('enter', 'main'), ('enter', 'p'), ('leave', 'p')), (('enter', 'main'), ('enter', 'p'), ('say', 'one'))]]
'''

STAGE_14 = '''
>>> STILL = MIRROR.with_procedure(Procedure("p", (("either", (("call", "p", None, None),), (("say", "at", "x"),)),)))
>>> [are_alike(MIRROR, STILL), are_alike(MIRROR, OUTER), is_alike_paper(MIRROR, OUTER, ("apart", (("enter", "main"), ("enter", "p"), ("say", "one"))))]
[True, False, True]
'''

STAGE_15 = '''
>>> HUSH = HALF.with_procedure(Procedure("main", HALF["main"].body[:2], own=(("s", 2),)))
>>> [gives_no_more(HUSH, HALF), gives_no_more(HALF, HUSH), gives_no_more(MIRROR, STILL)]
[True, False, True]
'''

STAGE_16 = '''
>>> [is_silent(LOST), is_silent_paper(LOST, ("stuck", ((1,), ()))), is_stuck_run(LOST, (0,), ()), is_silent(MIRROR)]
[False, True, False, False]
>>> is_silent(Program({"x": 2}, Procedure("main", (("hide", "x"), ("ask", "w", "x"), ("say", "end", None)))))
True
'''

STAGE_17 = '''
>>> words = (("word", "a"), ("word", "b"))
>>> [parts_of(MIRROR), greatest_shown(HALF, words, (Fact.where(HALF.shared, {"x": 0}), Fact.where(HALF.shared, {"x": 1})))]
[(('call', 'p'), ('word', 'at')), ((('word', 'a'),), (('word', 'b'),))]
>>> [cut_log(OUTER, (("call", "p"),), LOG), [len(fact) for fact in Left(for_words(HALF, ("a",))).sets]]
[(('enter', 'main'),), [2, 2]]
'''

STAGE_18 = '''
>>> project = Project(HUSH)
>>> project.promise("secret", "never", Fact.where(HALF.shared, {"x": 1}))
>>> [project.deeds, project.program == HUSH, project.undo(), len(project), project.redo(), list(project.promises)]
[('promise',), True, 0, 0, 1, ['secret']]
>>> project.put(HALF["main"])
Traceback (most recent call last):
    ...
showncalls.errors.Refused: secret
'''

STAGE_19 = r'''
>>> shell = Shell()
>>> [shell("new out\n" + write_program(OUTER)), shell("know out n is 0").split("\n")[-1], shell("see out enter p"), shell("ask out n is 0")]
['program of 2 procedures, 1 shared cells', 'say end', 2, 'open']
>>> [shell("less out hid call p"), shell("left hid"), shell.names, shell.script[1:]]
['program of 2 procedures, 1 shared cells', (((0,), (1,)),), ('hid', 'out'), ('see out enter p', 'less out hid call p')]
'''

# Each with the number of its examples. What one stage has named, those behind it use, too.
STAGES = (
    ("stage 1", STAGE_1, 2),
    ("stage 2", STAGE_2, 4),
    ("stage 3", STAGE_3, 2),
    ("stage 4", STAGE_4, 2),
    ("stage 5", STAGE_5, 3),
    ("stage 6", STAGE_6, 4),
    ("stage 7", STAGE_7, 6),
    ("stage 8", STAGE_8, 3),
    ("stage 9", STAGE_9, 2),
    ("stage 10", STAGE_10, 3),
    ("stage 11", STAGE_11, 1),
    ("stage 12", STAGE_12, 1),
    ("stage 13", STAGE_13, 1),
    ("stage 14", STAGE_14, 2),
    ("stage 15", STAGE_15, 2),
    ("stage 16", STAGE_16, 2),
    ("stage 17", STAGE_17, 3),
    ("stage 18", STAGE_18, 4),
    ("stage 19", STAGE_19, 3),
)


class Examples(Case):
    maxDiff = None


    def test_all(self):
        names = {}
        for module in (words, facts, programs, texts, runs, silent, knowings, watchers, tables, left, papers, ends, counts,
                       alike, more, quiet, parts, projects, shells):
            names.update(vars(module))
        for name, text, many in STAGES:
            with self.subTest(name=name):
                made = doctest.DocTestParser().get_doctest(EXAMPLES + text, names, name, None, None)
                told = []
                result = doctest.DocTestRunner(verbose=False).run(made, out=told.append, clear_globs=False)
                self.assertEqual("".join(told), "")
                self.assertEqual((result.failed, result.attempted), (0, 4 + many))
                names.update(made.globs)
