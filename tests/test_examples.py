"""The examples of the document, as they stand there."""

import doctest

from showncalls.base import facts, programs, words
from tests.helper import Case

EXAMPLES = '''
>>> MIRROR = Program({"x": 2}, Procedure("main", (("call", "p", None, None),)), Procedure("p", (("either", (("call", "p", None, None), ("set", "x", ("x",), (1, 0))), (("say", "at", "x"),)),)))
>>> DEEP = Program({"c": 4, "x": 2}, Procedure("main", (("set", "c", (), (0,)), ("call", "p", None, None))), Procedure("p", (("if", "c", 3, (("say", "at", "x"),), (("set", "c", ("c",), (1, 2, 3, 0)), ("call", "p", None, None))),)))
>>> OUTER = Program({"n": 2}, Procedure("main", (("hide", "a"), ("call", "p", "a", None), ("set", "n", ("a",), (0, 1)), ("say", "end", None)), own=(("a", 2),)), Procedure("p", (("if", "c", 1, (("say", "one", None),), ()),), own=(("c", 2),)))
>>> HALF = Program({"k": 2, "x": 2}, Procedure("main", (("set", "s", ("k", "x"), (0, 1, 1, 0)), ("say", "a", "s"), ("say", "b", "k")), own=(("s", 2),)))
'''

STAGE_1 = '''
>>> LOG = (("enter", "main"), ("enter", "p"), ("say", "at", 1), ("leave", "p"))
>>> [is_line(("say", "at", 4)), is_log(LOG), is_log(LOG + (("leave", "p"),)), open_calls(LOG[:3]), list(rows((2, 1, 2)))]
[False, True, False, ('main', 'p'), [(0, 0, 0), (0, 0, 1), (1, 0, 0), (1, 0, 1)]]
'''

STAGE_2 = '''
>>> CELLS = {"x": 2, "y": 3}
>>> ONE, SAME = Fact.where(CELLS, {"x": 1}), Fact.alike(CELLS, "x", "y")
>>> [ONE.standings, SAME.standings, (ONE & SAME).standings, len(ONE | SAME), (~ONE).numbers("y"), (ONE & SAME).is_within(ONE)]
[((1, 0), (1, 1), (1, 2)), ((0, 0), (1, 1)), ((1, 1),), 4, (0, 1, 2), True]
>>> [SAME.without("x").standings, Fact({"x": 2}, ((1,),)).over(CELLS) == ONE, str(ONE - SAME)]
[((0,), (1,)), True, 'fact of 2 standings']
'''

STAGE_3 = '''
>>> [MIRROR.main, MIRROR.words, MIRROR.statement("p", 3), MIRROR.behind("p", 1), MIRROR.behind("p", 2), OUTER.begins("p")]
['main', ('at',), ('say', 'at', 'x'), 2, 4, (((0,), (0,)), ((0,), (1,)), ((1,), (0,)), ((1,), (1,)))]
>>> [OUTER.cells_of("p"), OUTER.into("p", 0, 0), OUTER.into("p", 0, 1), str(DEEP), len(DEEP["p"])]
[{'c': 2, 'n': 2}, 1, 2, 'program of 2 procedures, 2 shared cells', 4]
'''

STAGES = (("stage 1", STAGE_1, 2), ("stage 2", STAGE_2, 4), ("stage 3", STAGE_3, 2))


class Examples(Case):
    def test_all(self):
        names = {}
        for module in (words, facts, programs):
            names.update(vars(module))
        for name, text, many in STAGES:
            with self.subTest(name=name):
                made = doctest.DocTestParser().get_doctest(EXAMPLES + text, dict(names), name, None, None)
                told = []
                result = doctest.DocTestRunner(verbose=False).run(made, out=told.append)
                self.assertEqual("".join(told), "")
                self.assertEqual((result.failed, result.attempted), (0, 4 + many))
