"""[19.1]: a shell."""

import random

from showncalls.base.facts import Fact
from showncalls.base.programs import Procedure, Program
from showncalls.compare.alike import are_alike
from showncalls.compare.more import gives_no_more
from showncalls.compare.parts import is_part, parts_of, without_parts
from showncalls.compare.silent import is_silent
from showncalls.errors import (
    InvalidCommand, InvalidLog, InvalidNumber, InvalidOperation, InvalidProgram, ParseError, TooMany, UnknownName, Unseen,
)
from showncalls.give.ends import is_settled
from showncalls.give.left import Left
from showncalls.know.watchers import Watcher
from showncalls.text.shell import MAX_PROGRAMS, Shell
from showncalls.text.texts import write_log, write_program
from tests.helper import DEEP, HALF, HUGE, MIRROR, ODD, OUTER, Case
from tests.making import HUGE_LOGS, SAY, Maker, call, procedure, with_knowings, with_lines

MAIN = ("enter", "main")
PROGRAMS = {"mirror": MIRROR, "deep": DEEP, "outer": OUTER, "half": HALF}


def new(name, program):
    return f"new {name}\n{write_program(program)}"


def with_programs(**programs):
    shell = Shell()
    for name, program in programs.items():
        shell(new(name, program))
    return shell


class Commands(Case):
    def setUp(self):
        self.shell = with_programs(**PROGRAMS)

    def told(self, *commands):
        return [self.shell.run(command) for command in commands]

    def test_the_documents_example(self):
        shell = Shell()
        self.same([shell(new("out", OUTER)), shell("know out n is 0").split("\n")[-1], shell("see out enter p"), shell("ask out n is 0")],
                  ["program of 2 procedures, 1 shared cells", "say end", 2, "open"])
        self.same([shell("less out hid call p"), shell("left hid"), shell.names, shell.script[1:]],
                  ["program of 2 procedures, 1 shared cells", (((0,), (1,)),), ("hid", "out"), ("see out enter p", "less out hid call p")])

    def test_new_copy_and_drop(self):
        self.same([self.shell.names, len(self.shell), str(self.shell)], [("deep", "half", "mirror", "outer"), 4, "shell of 4 programs"])
        self.assertEqual(self.shell.programs, PROGRAMS)
        self.same(list(self.shell.programs), ["deep", "half", "mirror", "outer"])
        self.same(self.told("see half say a 0", "copy half same", "see same say a 1", "back half 0", "drop half", "back same 0"), [2, None, 2, 2, None, 2])
        self.same(self.shell.names, ("deep", "mirror", "outer", "same"))
        self.assertEqual(self.shell.programs["same"], HALF)
        self.same(self.told("copy same half", "back half 0"), [None, 1])
        self.same(self.shell(new("names", MIRROR.renamed({"p": "new"}))), "program of 2 procedures, 1 shared cells")
        self.assertEqual(self.shell.programs["names"], MIRROR.renamed({"p": "new"}))

    def test_less(self):
        self.same(self.told("less half a word b", "less half b word a", "less mirror c call p", "less outer d word one"),
                  ["program of 1 procedures, 2 shared cells"] * 2 + ["program of 2 procedures, 1 shared cells"] * 2)
        programs = self.shell.programs
        for name, old, part in (("a", HALF, ("word", "b")), ("b", HALF, ("word", "a")), ("c", MIRROR, ("call", "p")), ("d", OUTER, ("word", "one"))):
            self.assertEqual(programs[name], without_parts(old, (part,)))
        self.same(self.told("back a 0", "see a say a 1"), [1, 2])

    def test_text_and_left(self):
        for name, program in PROGRAMS.items():
            self.same(self.told(f"text {name}", f"left {name}"), [write_program(program), tuple(fact.standings for fact in Left(program).sets)])

    def test_know_settled_and_ask(self):
        self.same(self.told("know half x is 0 and k is 1", "know half x is 0 and x is 1", "know half k is x", "know half k is k", "know mirror x is 1"),
                  [write_log(Left(HALF).log_for(Fact.where(HALF.shared, {"x": 0, "k": 1}))), None, write_log(Left(HALF).log_for(Fact.alike(HALF.shared, "k", "x"))),
                   "enter main", "enter main\nenter p\nsay at 1"])
        self.same(self.told("settled half x is 0", "settled half k is 1 and x is k", "settled half x is 0 and x is 1", "settled mirror x is 0"), [True] * 4)
        self.same(self.told("ask half x is 0", "see half say a 1", "ask half k is x", "ask half x is 0", "see half say b 1", "ask half x is 0", "ask half k is 1 and x is 0",
                            "ask half k is x and x is k", "ask half x is 1 and x is 0", "ask half x is x"), ["open", 2, "never", "open", 3, "surely", "surely", "never", "never", "surely"])
        program = Program({"is": 2, "and": 3}, procedure("main", ("say", "is", "is")))
        self.shell(new("is", program))
        self.same(self.told("know is is is 1", "ask is and is and and is is is", "ask is is is and and and is 2", "see is say is 1", "ask is is is 1"),
                  ["enter main\nsay is 1", "surely", "never", 2, "surely"])

    def test_silent_alike_and_nomore(self):
        self.told("less half fewer word b", "copy half twin")
        self.same(self.told("silent half", "silent outer", "alike half twin", "alike half fewer", "alike mirror outer", "nomore fewer half", "nomore half fewer", "nomore half twin"),
                  [False, False, True, False, False, True, False, True])
        self.shell(new("quiet", Program({"x": 2}, procedure("main", ("ask", "w", "x"), SAY))))
        self.same(self.told("silent quiet", "alike quiet quiet", "nomore quiet mirror"), [True, True, True])

    def test_see_and_back(self):
        self.same(self.told("see outer enter p", "see outer say one", "see outer leave p", "ask outer n is 1", "see outer say end", "ask outer n is 1", "see outer leave main"),
                  [2, 3, 4, "open", 5, "surely", 6])
        self.same(self.told("back outer 0", "back outer 2", "back outer 3", "back outer 0"), [6, 4, 1, 1])
        self.shell(new("asks", Program({"x": 4}, procedure("main", ("ask", "w", "x")))))
        self.same(self.told("see asks ask w 3", "ask asks x is 3", "back mirror 0"), [2, "surely", 1])

    def test_a_call_is_a_run(self):
        self.same([self.shell("see mirror enter p"), self.shell.run("see mirror enter p"), self.shell("back mirror 1")], [2, 3, 2])


class Wrong(Case):
    def setUp(self):
        self.shell = with_programs(half=HALF, outer=OUTER)
        self.shell("see half say a 1")

    def refused(self, error, command):
        before = (self.shell.names, self.shell.programs, self.shell.script)
        twin = Shell.replayed(self.shell.script)
        raised = self.fails(error, self.shell.run, command)
        self.assertIs(self.fails(error, self.shell, command).__class__, error)
        self.assertEqual((self.shell.names, self.shell.programs, self.shell.script), before)
        self.assertEqual(self.shell, twin)
        return raised

    def test_words(self):
        text = write_program(HALF)
        for command in ODD + (
            "", " ", "new", "new ", "new x", "new x ", f"new X\n{text}", f"new\n{text}", f"new x y\n{text}", f"new x \n{text}", f" new x\n{text}", f"new  x\n{text}", f"New x\n{text}",
            "copy half", "copy half x y", "copy half X", "copy  half x", "copy half  x", "copy half x ", " copy half x", "copy half x\n", "copy half x\ncopy half y", "Copy half x", "copy\nhalf x",
            "drop", "drop ", "drop half outer", "drop half\n", "drop half ", "drop abcdefghi", "drop h1", "drop half\n\n", "less half x", "less half x word", "less half x word a b", "less half x a",
            "less half x words a", "less half x word A", "less half x procedure p", "less half x call", "less half x word a\n", "text", "text half half", "text half\n", "left", "left half 1", "left half\n",
            "know half", "know half ", "know half x", "know half x is", "know half x is 0 and", "know half x is 0 and k", "know half x is 0 and k is", "know half x is 0 k is 1", "know half x = 0",
            "know half x is 00", "know half x is 01", "know half x is -1", "know half x is +1", "know half x is 1 and  k is 1", "know half x is 0  and k is 1", "know half x is X", "know half X is 0",
            "know half x is 0 or k is 1", "know half x is 0 and and k is 1", "know half and x is 0", "know half x is " + "1" * 41, "know half x is 0\n", "know half x is 1.0", "know half x is abcdefghi",
            "settled half", "settled half x", "ask half", "ask half x is 0 and k", "silent", "silent half half", "silent half\n", "alike half", "alike half outer half", "nomore half", "nomore half outer\n",
            "see half", "see half say", "see half say a 1 1", "see half say a 10", "see half ask a", "see half enter", "see half enter p q", "see half leave", "see half Enter p", "see half say a  1",
            "see half  say a 1", "see half say A", "see half say a -1", "see half say a 1\n", "see half tell a", "back half", "back half 01", "back half 00", "back half -1", "back half +1", "back half 1 1", "back half ", "know half x is ", "settled half x is 1 and k is ", "see half ", "less half x call ", "copy half ",
            "back half one", "back half 1\n", "back half " + "1" * 41, "back half  1", "back half 1 ", "help", "undo", "half", "x is 0", "back 1 half", "less half x  word a",
        ):
            self.refused(InvalidCommand, command)
        # Names that are not there do not matter, while the words are wrong.
        for command in ("see zzz tell a", "back zzz 01", "know zzz x", "copy zzz X", "less zzz zz a", f"new zzz yyy\n{text}"):
            self.refused(InvalidCommand, command)

    def test_unknown_programs(self):
        for command in ("copy zzz x", "copy zzz half", "drop zzz", "less zzz x word a", "less zzz half word zz", "text zzz", "left zzz", "know zzz x is 0", "know zzz y is 9", "settled zzz x is 0",
                        "silent zzz", "alike zzz half", "alike half zzz", "alike zzz yyy", "nomore zzz yyy", "nomore outer zzz", "see zzz say a 9", "back zzz 99", "ask zzz x is 0"):
            self.same(self.refused(UnknownName, command).name, "zzz")

    def test_other_unknown_names(self):
        for command, name in (("less half x word zz", "zz"), ("less half half word zz", "zz"), ("less half x call p", "p"), ("less half x call a", "a"), ("less half x word main", "main"),
                              ("know half y is 0", "y"), ("know half x is y", "y"), ("know half z is y", "z"), ("know half x is 9 and z is 0", "z"), ("settled half x is k and k is s", "s"),
                              ("ask half a is 0", "a"), ("ask half y is 5 and z is 0", "y"), ("know outer x is 0", "x"), ("ask outer a is 0", "a")):
            self.same(self.refused(UnknownName, command).name, name)

    def test_programs_that_are_there(self):
        text = write_program(HALF)
        for command in (f"new half\n{text}", "new outer\nnothing", "new half\n", "copy half outer", "copy half half", "less half outer word a", "less half half word b"):
            self.refused(InvalidOperation, command)

    def test_what_is_no_part(self):
        self.shell(new("quiet", OUTER.with_quiet("p", True)))
        for command in ("less half x call main", "less quiet x call p", "less outer x call main"):
            self.refused(InvalidOperation, command)

    def test_numbers(self):
        for command, number in (("know half x is 2", 2), ("know half x is 1 and k is 3", 3), ("ask half x is 9 and k is 8", 9), (f"settled half x is {HUGE}", HUGE), ("ask outer n is 2", 2),
                                ("back half 2", 2), ("back half 3", 3), (f"back outer {HUGE}", HUGE), ("back outer 1", 1)):
            self.same(self.refused(InvalidNumber, command).value, number)

    def test_texts_of_programs(self):
        for text, line in (("", 0), ("shared", 1), ("shared x 2", 1), ("nothing", 0), ("shared x 2\nprocedure main\n  say w x\n nothing", 3), ("shared x 2\nprocedure main\n  if x is 1", 3),
                           ("\nshared", 0), ("shared \nprocedure main", 0), ("shared\nprocedure main\n", 2)):
            self.same(self.refused(ParseError, "new x\n" + text).line, line)
        for text in ("shared x 5\nprocedure main", "shared\nquiet main", "shared\nprocedure main\n  call q", "shared y 2, x 2\nprocedure main"):
            self.refused(InvalidProgram, "new x\n" + text)

    def test_lines(self):
        for command, line in (("see half say a 1", ("say", "a", 1)), ("see half enter p", ("enter", "p")), ("see outer say one", ("say", "one")),
                              ("see half leave main", ("leave", "main"))):
            self.same(self.refused(Unseen, command).line, line)
        for command in ("see half say a 4", "see half ask zz 9", "see outer say one 7"):
            self.refused(InvalidLog, command)

    def test_shared_cells_that_are_not_equal(self):
        self.refused(InvalidOperation, "nomore half outer")
        self.same(self.shell("alike half outer"), False)

    def test_eight_programs_and_a_ninth(self):
        shell = with_programs(a=HALF, b=OUTER)
        for name in "cdefgh":
            shell(f"copy a {name}")
        self.shell = shell
        self.same([MAX_PROGRAMS, len(shell), str(shell)], [8, 8, "shell of 8 programs"])
        for command in (new("i", HALF), "copy a i", "less a i word b", "less b i call p"):
            self.assertEqual(self.refused(TooMany, command).limit, 8)
        # All other errors come first.
        for error, command in ((ParseError, "new i\nnothing"), (InvalidProgram, "new i\nshared\nquiet main"), (InvalidOperation, new("h", HALF)), (InvalidOperation, "copy a h"),
                               (UnknownName, "copy i j"), (UnknownName, "less a i word zz"), (InvalidOperation, "less a i call main"), (InvalidCommand, "new i")):
            self.refused(error, command)
        shell("drop h")
        self.same([shell("less b h call p"), len(shell)], ["program of 2 procedures, 1 shared cells", 8])

    def test_too_many_knowings_and_lines(self):
        great = with_knowings(1)
        self.shell = with_programs(great=great, long=with_lines(1), huge=HUGE_LOGS)
        for command in ("left great", "know great x is 1", "settled great x is 1", "silent great", "nomore great great", "alike great great"):
            self.assertEqual(self.refused(TooMany, command).limit, 400)
        for command in ("know long x is 1", "know huge x is 0"):
            self.assertEqual(self.refused(TooMany, command).limit, 2000)
        self.same([self.shell("ask great x is 1"), self.shell("see great enter p"), len(self.shell("left huge"))], ["open", 2, 1])


class Kept(Case):
    def test_the_script(self):
        shell = with_programs(half=HALF)
        commands = ["see half say a 1", "copy half b", "less half c word a", "back half 1", "see b say a 0", "drop c", "back b 0", "see half say a 0"]
        for command in commands:
            shell(command)
            for other in ("text half", "left half", "know half x is 1", "settled half x is 1", "silent half", "alike half half", "nomore half half", "ask half k is x"):
                shell(other)
            for wrong in ("see half say zz", "back half 9", "drop zz", "copy half half", "less half x word zz", "new half\nshared", "nothing"):
                with self.assertRaises((ValueError, LookupError)):
                    shell(wrong)
        self.same(shell.script, (new("half", HALF), *commands))
        self.assertEqual(Shell.replayed(shell.script), shell)
        self.assertEqual(Shell.replayed(shell.script).script, shell.script)

    def test_replayed(self):
        self.same([len(Shell.replayed(())), Shell.replayed(()).script, Shell.replayed(()) == Shell()], [0, (), True])
        for value in ODD + (["text a"], "text a", {"a": 1}):
            if value != () and not (isinstance(value, tuple)):
                self.fails(InvalidCommand, Shell.replayed, value)
        script = (new("half", HALF), "see half say a 1")
        for error, wrong in ((InvalidCommand, None), (InvalidCommand, "nothing"), (UnknownName, "drop zz"), (Unseen, "see half say a 0"), (InvalidNumber, "back half 2"), (InvalidCommand, ("drop half",)),
                             (InvalidOperation, "copy half half"), (ParseError, "new zz\n")):
            self.fails(error, Shell.replayed, script + (wrong,))
            self.fails(error, Shell.replayed, script + (wrong, "nothing"))
        # Other commands change nothing there, either.
        self.same(Shell.replayed(script + ("text half", "ask half x is 1")).script, script)

    def test_equality(self):
        one, other = with_programs(half=HALF, outer=OUTER), with_programs(outer=OUTER, half=HALF)
        self.same([one == other, one != other, one.script == other.script], [True, False, False])
        one("see half say a 1")
        self.same([one == other, one != other], [False, True])
        other("see half say a 0")
        self.assertIs(one == other, False)
        other("back half 1")
        other("see half say a 1")
        self.assertIs(one == other, True)
        one("drop outer")
        self.assertIs(one == other, False)
        one(new("outer", OUTER.with_quiet("p", True)))
        self.assertIs(one == other, False)
        for value in ODD + ({}, "shell", MIRROR):
            self.same([one == value, one != value, value == one], [False, True, False])
        self.assertIs(Shell() == Shell(), True)

    def test_in_and_len(self):
        shell = with_programs(half=HALF)
        self.same(["half" in shell, "outer" in shell, "main" in shell, len(shell), len(Shell()), str(Shell()), Shell().names, Shell().programs, Shell().script],
                  [True, False, False, 1, 0, "shell of 0 programs", (), {}, ()])
        for value in ODD + (["half"], ("half",), {"half": 1}):
            self.assertIs(value in shell, False)
        for ask in (iter, list, sorted):
            with self.assertRaises(TypeError):
                ask(shell)

    def test_what_is_returned_is_a_copy(self):
        shell = with_programs(half=HALF)
        programs = shell.programs
        programs.clear()
        programs["x"] = 1
        self.assertEqual(shell.programs, {"half": HALF})


class Rows(Case):
    """Rows of commands, right and wrong ones, against plain dicts of programs and of watchers."""

    def test_all(self):
        many = {}
        for seed in range(40):
            maker = Maker(seed + 5200, statements=5, shared=({"x": 2}, {"x": 2, "y": 2}, {"x": 3}))
            chance = random.Random(seed)
            shell = Shell()
            programs, watchers, script = {}, {}, []
            for _ in range(60):
                word, *args = command = self.command(chance, maker, programs, watchers)
                text = self.text_of(command)
                try:
                    reply = self.reply(programs, watchers, word, args)
                except (ValueError, LookupError, OverflowError) as error:
                    raised = self.fails(error.__class__, shell.run, text)
                    self.same(vars(raised), vars(error))
                    many[error.__class__] = many.get(error.__class__, 0) + 1
                else:
                    self.same(shell(text), reply)
                    many[word] = many.get(word, 0) + 1
                    if word in ("new", "copy", "drop", "less", "see", "back"):
                        script.append(text)
                self.assertEqual((shell.names, shell.programs, shell.script), (tuple(sorted(programs)), programs, tuple(script)))
            replayed = Shell.replayed(tuple(script))
            self.assertEqual(replayed, shell)
            for name in programs:
                self.same(replayed(f"back {name} 0"), len(watchers[name]))
        self.assertGreater(min(many.values()), 3, many)
        self.assertEqual(len(many), 14 + 6, many)

    def command(self, chance, maker, programs, watchers):
        """The words of any command: its name, then names of programs, and what else it takes."""
        word = chance.choice(["new"] * 5 + ["copy"] * 4 + ["drop"] + ["less"] * 5 + ["text", "left", "know", "settled", "silent", "alike", "nomore", "see", "see", "see", "see", "back", "ask", "ask"])
        name = chance.choice("abcdefghijk") if not programs or chance.random() < 0.15 else chance.choice(sorted(programs))
        if word == "new":
            return word, chance.choice("abcdefghijk"), maker.program()
        if word == "less":
            parts = parts_of(programs[name]) if name in programs else ()
            return word, name, chance.choice("abcdefghijk"), chance.choice(parts + (("word", "zz"), ("call", "main"), ("call", "zz"), ("call", "p")))
        if word in ("copy", "alike", "nomore"):
            return word, name, chance.choice("abcdefghijk" if word == "copy" else sorted(programs) + ["k"])
        if word in ("know", "settled", "ask"):
            cells = sorted(programs[name].shared) if name in programs else ["x"]
            named = cells * 4 + ["zz"]
            return word, name, tuple((chance.choice(named), chance.choice([0, 1, 0, 1, 2, chance.choice(named)])) for _ in range(chance.randint(1, 3)))
        if word == "see":
            lines = watchers[name].lines() if name in watchers else ()
            return word, name, chance.choice(lines * 3 + (("say", "zz"), ("say", "w", 7)))
        return (word, name, chance.choice([0, 1, 1, 2, 9])) if word == "back" else (word, name)

    def text_of(self, command):
        word, name, *rest = command
        if word == "new":
            return new(name, rest[0])
        pieces = [word, name]
        for piece in rest:
            if isinstance(piece, tuple) and isinstance(piece[0], tuple):
                pieces.append(" and ".join(f"{cell} is {worth}" for cell, worth in piece))
            else:
                pieces.append(" ".join(map(str, piece)) if isinstance(piece, tuple) else str(piece))
        return " ".join(pieces)

    def reply(self, programs, watchers, word, args):
        name, *rest = args
        if word != "new" and name not in programs:
            raise UnknownName(name)
        if word in ("alike", "nomore") and rest[0] not in programs:
            raise UnknownName(rest[0])
        if word == "less" and rest[1][1] not in (programs[name].words if rest[1][0] == "word" else programs[name].names):
            raise UnknownName(rest[1][1])
        if word in ("new", "copy", "less"):
            made = name if word == "new" else rest[0]
            if made in programs or word == "less" and not is_part(programs[name], rest[1]):
                raise InvalidOperation("there")
            if len(programs) == 8:
                raise TooMany(8)
            programs[made] = rest[0] if word == "new" else programs[name] if word == "copy" else without_parts(programs[name], (rest[1],))
            watchers[made] = Watcher(programs[made])
            return None if word == "copy" else str(programs[made])
        program, watcher = programs[name], watchers[name]
        if word in ("know", "settled", "ask"):
            for each in [each for pair in rest[0] for each in pair if isinstance(each, str)]:
                if each not in program.shared:
                    raise UnknownName(each)
            for cell, worth in rest[0]:
                if not isinstance(worth, str) and worth >= program.shared[cell]:
                    raise InvalidNumber(worth)
            cells = sorted(program.shared)
            held = [dict(zip(cells, row)) for row in Fact.every(program.shared).standings]
            fitting = [each for each in held if all(each[cell] == each.get(worth, worth) for cell, worth in rest[0])]
            fact = Fact(program.shared, tuple(tuple(each[cell] for cell in cells) for each in fitting))
            if word == "know":
                log = Left(program).log_for(fact)
                return log and write_log(log)
            return watcher.answer(fact) if word == "ask" else is_settled(program, fact)
        if word == "drop":
            del programs[name], watchers[name]
            return None
        if word == "see":
            watcher.see(rest[0])
            return len(watcher)
        if word == "back":
            return watcher.back(many=rest[0])
        if word in ("alike", "nomore"):
            return (are_alike if word == "alike" else gives_no_more)(program, programs[rest[0]])
        return {"text": write_program, "silent": is_silent, "left": lambda one: tuple(fact.standings for fact in Left(one).sets)}[word](program)
