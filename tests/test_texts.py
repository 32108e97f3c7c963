"""[4.1] to [4.3]: texts of programs and logs."""

import itertools

from showncalls.base.programs import Procedure, Program
from showncalls.errors import InvalidLog, InvalidProgram, ParseError
from showncalls.text.texts import read_log, read_program, write_log, write_program
from tests.helper import DEEP, HALF, MIRROR, ODD, OUTER, Case
from tests.making import Maker

LOG = (("enter", "main"), ("enter", "p"), ("say", "at", 1), ("ask", "w", 3), ("say", "w"), ("leave", "p"))
NO_TEXTS = tuple(value for value in ODD if not isinstance(value, str)) + ((), b"shared", ["shared"], ("shared",))
EVERY = (
    ("shared x 2, y 3", None),
    ("procedure main", None),
    ("own a 2, b 3", None),
    ("  set x to 1", ("set", "x", (), (1,))),
    ("  set y by x to 2 0", ("set", "y", ("x",), (2, 0))),
    ("  set x by x a to 0 1 1 0", ("set", "x", ("x", "a"), (0, 1, 1, 0))),
    ("  hide a", ("hide", "a")),
    ("  ask w x", ("ask", "w", "x")),
    ("  say w b", ("say", "w", "b")),
    ("  say w", ("say", "w", None)),
    ("  call p", ("call", "p", None, None)),
    ("  call p with x", ("call", "p", "x", None)),
    ("  call p gives a", ("call", "p", None, "a")),
    ("  call p with a gives x", ("call", "p", "a", "x")),
    ("quiet p", None),
    ("own c 2", None),
    ("procedure q", None),
)
# Behind "shared x 2" and "procedure main", one deep.
NO_FORMS = (
    "", " ", "  ", "   ", "x", "  x", "  hide", "  hide x ", "  hide  x", "  hide x y", "  Hide x", "  hide X", "  hide x1",
    "  hide abcdefghi", "  hide 1", "  ask w", "  ask w x y", "  ask w 1", "  say", "  say w x y", "  say w 1", "  say 1",
    "  say w None", "  set x", "  set x to", "  set x to x", "  set x to 10", "  set x to -1", "  set x to 1 ", "  set to 1",
    "  set x 1", "  set x by to 1", "  set x by x 0 1", "  set x by x to", "  set x by x y z to 0", "  set x by 1 to 0",
    "  set x to 1 x", "  set x to 1  0", "  set x by x y to 0 1 to 1", "  set x x to 1", "  set x x x to 1",
    "  call", "  call p with", "  call p gives", "  call p with x gives", "  call p x", "  call p gives x with x",
    "  call p with x y", "  call p with x gives y z", "  call 1", "  call p with 1", "  if x is", "  if x is y", "  if x 1",
    "  if x is 1 1", "  if x is 12", "  if is 1", "  either x", "  often x", "  else x", "  or x", "  elseif", "  if",
    "procedure", "procedure ", "procedure p q", "procedure 1", "procedure P", " procedure p", "  procedure p", "quiet",
    "quiet p q", "  quiet p", "own", "own ", "own a", "own a b", "own a 2,", "own a 2,b 2", "own a 2 , b 2", "own a 2, ",
    "own a 2 b 2", "own a 22", "own  a 2", " own a 2", "own a 2,  b 2", "shared x 2 ", "shared  x 2",
    "  set X to 1", "  set x by X to 0 1", "  put x to 1", "  set x at 1", "  set x by y at 1", "  hide NAME", "  if x is DIGIT",
    "  set NAME to 1", "procedure NAME", "  hide x, y", "\thide x", "  hide\tx", "# hide x", "  enter p", "  leave p",
)


def text(*lines):
    return "\n".join(lines)


class There(Case):
    def test_every_statement(self):
        body = tuple(statement for line, statement in EVERY if statement is not None)
        program = Program({"y": 3, "x": 2}, Procedure("main", body, own=(("a", 2), ("b", 3))),
                          Procedure("p", (), own=(("c", 2),), quiet=True), Procedure("q", ()))
        lines = [line for line, statement in EVERY]
        self.same(write_program(program).split("\n"), lines)
        self.assertTrue(read_program(text(*lines)) == program)

    def test_inner_bodies(self):
        say = ("say", "w", None)
        body = (("if", "x", 1, (("often", (say, say)),), ()), ("either", (), (("if", "x", 0, (), (say,)), say)), ("often", ()))
        program = Program({"x": 2}, Procedure("main", body))
        lines = (
            "shared x 2", "procedure main", "  if x is 1", "    often", "      say w", "      say w", "  else",
            "  either", "  or", "    if x is 0", "    else", "      say w", "    say w", "  often",
        )
        self.same(write_program(program), text(*lines))
        self.assertTrue(read_program(text(*lines)) == program)

    def test_no_shared_cells_and_empty_bodies(self):
        program = Program({}, Procedure("main", ()), Procedure("p", (), own=(("a", 4),)))
        self.same(write_program(program), "shared\nprocedure main\nprocedure p\nown a 4")
        self.assertTrue(read_program("shared\nprocedure main\nprocedure p\nown a 4") == program)
        self.same(write_program(Program({}, Procedure("main", ()))), "shared\nprocedure main")

    def test_own_cells_in_their_order(self):
        program = Program({"b": 2, "a": 2}, Procedure("main", (), own=(("z", 2), ("c", 3))))
        self.same(write_program(program).split("\n"), ["shared a 2, b 2", "procedure main", "own z 2, c 3"])

    def test_names_that_are_words_of_the_texts(self):
        lines = (
            "shared by 2, or 2", "procedure main", "own to 2", "  set by by by to to 0 1 1 0", "  set to to 1",
            "  set or by or to 1 0", "  say say say", "  ask ask by", "  call with", "  call gives with to gives to",
            "  call gives gives to", "  if or is 1", "    hide to", "  else", "  say else", "procedure with", "quiet gives",
            "own is 2", "  say or", "  say own or",
        )
        lines = tuple(line.replace("say say say", "say say by") for line in lines)
        program = read_program(text(*lines))
        self.same(write_program(program), text(*lines))
        self.same(program["main"].body[0], ("set", "by", ("by", "to"), (0, 1, 1, 0)))
        self.same(program["main"].body[6], ("call", "gives", "to", "to"))

    def test_there_and_back(self):
        made = [MIRROR, DEEP, OUTER, HALF]
        maker = Maker(4, statements=12, most=4)
        made.extend(maker.program() for _ in range(300))
        for program in made:
            written = write_program(program)
            again = read_program(written)
            self.assertTrue(again == program, written)
            self.same(write_program(again), written)
            self.assertEqual(again.procedures, program.procedures)

    def test_no_program(self):
        for value in ODD + (Program, "shared\nprocedure main", MIRROR["p"]):
            if not isinstance(value, Program):
                self.fails(InvalidProgram, write_program, value)


class Lines(Case):
    """Which line is wrong."""

    def wrong(self, due, *lines):
        self.same(self.fails(ParseError, read_program, text(*lines)).line, due)

    def test_no_strings(self):
        for value in NO_TEXTS:
            self.assertIsNone(self.fails(ParseError, read_program, value).line)
            self.assertIsNone(self.fails(ParseError, read_log, value).line)

    def test_no_text_at_all(self):
        self.wrong(0, "")
        self.wrong(0, "", "shared")
        self.wrong(0, "\n")

    def test_no_forms(self):
        for line in NO_FORMS:
            with self.subTest(line=line):
                self.wrong(2, "shared x 2", "procedure main", line)
                self.wrong(3, "shared x 2", "procedure main", "  hide x", line)
                self.wrong(3, "shared x 2", "procedure main", "  hide x", line, "nothing", "")
                # Ahead of it, what would be wrong with the whole program does not matter.
                self.wrong(2, "shared x 9, x 2", "quiet main", line)

    def test_the_first_line(self):
        for line in ("procedure main", "shared ", " shared", "shared x", "shared x 2,", "shared x 2, ", "shared x 2,y 2",
                     "shared x 2 y 2", "shared x 22", "shared 2", "shared X 2", "shared x2", "Shared", "shared, x 2",
                     "  hide x", "own a 2", "quiet p", "else"):
            self.wrong(0, line)
            self.wrong(0, line, "procedure main")
            self.wrong(0, line, "shared x 2", "procedure main")

    def test_nothing_stands_between_shared_and_the_first_procedure(self):
        for line in ("  hide x", "own a 2", "  else", "  or", "shared", "shared x 2", "    hide x", "hide x", "  if x is 1"):
            self.wrong(1, "shared x 2", line)
            self.wrong(1, "shared x 2", line, "procedure main")

    def test_shared_stands_nowhere_else(self):
        for line in ("shared", "shared x 2"):
            self.wrong(2, "shared x 2", "procedure main", line)
            self.wrong(3, "shared x 2", "procedure main", "  hide x", line)

    def test_the_end(self):
        self.wrong(1, "shared")
        self.wrong(1, "shared x 2, y 9")
        for word in ("if x is 1", "either"):
            self.wrong(3, "shared x 2", "procedure main", f"  {word}")
            self.wrong(4, "shared x 2", "procedure main", f"  {word}", "    hide x")
            self.wrong(5, "shared x 2", "procedure main", "  often", f"    {word}", "      hide x")
        self.wrong(6, "shared x 2", "procedure main", "  either", "    either", "      hide x", "    or")

    def test_blank_lines(self):
        self.wrong(2, "shared x 2", "procedure main", "")
        self.wrong(2, "shared x 2", "procedure main", "", "  hide x")
        self.wrong(3, "shared x 2", "procedure main", "  hide x", "")
        self.wrong(1, "shared x 2", "", "procedure main")

    def test_own_right_behind_the_head(self):
        self.wrong(3, "shared x 2", "procedure main", "  hide x", "own a 2")
        self.wrong(3, "shared x 2", "procedure main", "own a 2", "own b 2")
        self.wrong(4, "shared x 2", "procedure main", "quiet p", "  hide x", "own b 2")
        self.assertEqual(read_program(text("shared", "procedure main", "own a 2", "quiet p", "own a 2"))["p"].own, (("a", 2),))

    def test_indentation(self):
        for blanks in (0, 1, 3, 4, 5, 6, 7, 8, 20):
            self.wrong(2, "shared x 2", "procedure main", " " * blanks + "hide x")
            self.wrong(3, "shared x 2", "procedure main", "  hide x", " " * blanks + "hide x")
        for blanks in (0, 1, 3, 5, 6, 7, 8):
            self.wrong(3, "shared x 2", "procedure main", "  often", " " * blanks + "hide x")
        for blanks in (2, 4):
            read_program(text("shared x 2", "procedure main", "  often", " " * blanks + "hide x"))
        for blanks in (0, 1, 3, 5, 7, 8):
            self.wrong(5, "shared x 2", "procedure main", "  often", "    often", "      hide x", " " * blanks + "hide x")
        for blanks in (2, 4, 6):
            read_program(text("shared x 2", "procedure main", "  often", "    often", "      hide x", " " * blanks + "hide x"))

    def test_a_body_that_has_ended_does_not_go_on(self):
        self.wrong(5, "shared x 2", "procedure main", "  often", "    hide x", "  hide x", "    hide x")
        self.wrong(4, "shared x 2", "procedure main", "  often", "procedure p", "    hide x")

    def test_three_deep(self):
        for word, due in (("often", None), ("either", "or"), ("if x is 1", "else")):
            head = ["shared x 2", "procedure main", "  often", "    often", f"      {word}"]
            self.wrong(5, *head, "        hide x")
            if due is None:
                self.fails(InvalidProgram, read_program, text(*head))
            else:
                self.wrong(5, *head)
                self.fails(InvalidProgram, read_program, text(*head, f"      {due}"))
                self.wrong(6, *head, f"      {due}", "        hide x")

    def test_what_is_due(self):
        for word, due, other in (("if x is 1", "else", "or"), ("either", "or", "else")):
            head = ["shared x 2", "procedure main", f"  {word}"]
            for line in ("  hide x", "procedure p", "quiet p", f"  {other}", f"    {due}", due, f" {due}", f"   {due}",
                         f"  {word}", "own a 2", f"    {other}"):
                self.wrong(3, *head, line)
                if line != "own a 2":
                    self.wrong(4, *head, "    hide x", line)
            self.wrong(4, *head, f"  {due}", f"  {due}")
            self.wrong(5, *head, f"  {due}", "    hide x", f"  {due}")
            self.wrong(4, *head, f"  {due}", f"  {other}")

    def test_what_is_not_due(self):
        for due in ("else", "or"):
            self.wrong(2, "shared x 2", "procedure main", f"  {due}")
            self.wrong(3, "shared x 2", "procedure main", "  hide x", f"  {due}")
            self.wrong(3, "shared x 2", "procedure main", "  often", f"  {due}")
            self.wrong(4, "shared x 2", "procedure main", "  often", "    hide x", f"  {due}")

    def test_the_inner_one_is_due_first(self):
        for outer, inner in itertools.product((("if x is 1", "else"), ("either", "or")), repeat=2):
            head = ["shared x 2", "procedure main", f"  {outer[0]}", f"    {inner[0]}", "      hide x"]
            self.wrong(5, *head, f"  {outer[1]}")
            self.wrong(5, *head, "    hide x")
            self.wrong(6, *head, f"    {inner[1]}", "  hide x")
            read_program(text(*head, f"    {inner[1]}", "    hide x", f"  {outer[1]}", "  hide x"))

    def test_the_first_wrong_line_counts(self):
        self.wrong(2, "shared x 2", "procedure main", " hide x", "nothing")
        self.wrong(0, "shared  x 2", "nothing")


class NoPrograms(Case):
    """Texts in which each line can stand, but which are not the text of a program."""

    def test_all(self):
        main = "procedure main"
        for lines in (
            ("shared y 2, x 2", main), ("shared x 2, x 2", main), ("shared x 1", main), ("shared x 5", main),
            ("shared x 0", main), ("shared x 9", main), ("shared a 4, b 4, c 2", main),
            ("shared a 2, b 2, c 2, d 2, e 2", main), ("shared", "quiet main"), ("shared", main, main),
            ("shared", main, "own a 1"), ("shared", main, "own a 5"), ("shared", main, "own a 2, b 2, c 2"),
            ("shared", main, "own a 2, a 2"), ("shared a 2", main, "own a 2"), ("shared", main, "  hide x"),
            ("shared x 2", main, "  set x to 0 1"), ("shared x 2", main, "  set x to 2"), ("shared x 2", main, "  set x to 7"),
            ("shared x 2", main, "  set x by x x to 0 1 1 0"), ("shared x 2", main, "  set x by x to 0"),
            ("shared x 2", main, "  set x by x to " + "0 " * 16 + "0"), ("shared x 2", main, "  call p"),
            ("shared x 2", main, "  call main"), ("shared x 2", main, "  call p with x", "procedure p"),
            ("shared x 2", main, "  if x is 2", "  else"), ("shared x 2", main, "  if x is 9", "  else"),
            ("shared x 2, y 3", main, "  ask w x", "  ask w y"),
            ("shared", main, *["  say w"] * 25), ("shared", *[f"procedure {letter}" for letter in "abcdefghi"]),
        ):
            with self.subTest(lines=lines):
                self.fails(InvalidProgram, read_program, text(*lines))
                self.same(self.fails(ParseError, read_program, text(*lines, "  hide x y")).line, len(lines))

    def test_bounds_that_are_kept(self):
        self.assertEqual(len(read_program(text("shared", "procedure main", *["  say w"] * 24))["main"]), 24)
        self.assertEqual(len(read_program(text("shared", *[f"procedure {letter}" for letter in "abcdefgh"]))), 8)


class Logs(Case):
    def test_there_and_back(self):
        lines = ["enter main", "enter p", "say at 1", "ask w 3", "say w", "leave p"]
        self.same(write_log(LOG).split("\n"), lines)
        self.same(read_log(text(*lines)), LOG)
        kinds = (("enter", "q"), ("say", "w"), ("say", "w", 0), ("ask", "w", 2), ("leave", "q"), ("leave", "main"))
        many = 0
        for length in range(5):
            for rest in itertools.product(kinds, repeat=length):
                log = (("enter", "main"),) + rest
                written = text(*[" ".join(str(part) for part in line) for line in log])
                try:
                    self.same(write_log(log), written)
                    many += 1
                except InvalidLog:
                    self.fails(InvalidLog, read_log, written)
                else:
                    self.same(read_log(written), log)
        self.assertGreater(many, 300)

    def test_no_logs(self):
        for value in ODD + ((), [("enter", "main")], (("say", "w"),), (("enter", "main"), ("leave", "p")), "enter main",
                            (("enter", "main"), ("leave", "main"), ("say", "w")), (("enter", "main"), ("say", "w", 4))):
            self.fails(InvalidLog, write_log, value)

    def test_wrong_lines(self):
        for line in ("", " ", "  enter p", "enter", "enter p q", "enter p 1", "leave", "leave p 1", "say", "say w x", "say w 1 1",
                     "say w 10", "say w -1", "ask w", "ask w x", "ask 1", "ask w 1 ", " say w", "say  w", "hide w", "Enter p",
                     "enter abcdefghi", "enter p1", "say w\t1", "say w True"):
            self.same(self.fails(ParseError, read_log, line).line, 0)
            self.same(self.fails(ParseError, read_log, text("enter main", line)).line, 1)
            self.same(self.fails(ParseError, read_log, text("enter main", "say w", line, "enter", "")).line, 2)
            # Lines that make no log by their form can stand ahead of it.
            self.same(self.fails(ParseError, read_log, text("leave p", "say w 9", line)).line, 2)

    def test_each_line_can_stand(self):
        for lines in (("leave main",), ("say w",), ("enter main", "leave p"), ("enter main", "leave main", "say w"),
                      ("enter main", "say w 4"), ("enter main", "ask w 9"), ("ask w 0", "enter main")):
            self.fails(InvalidLog, read_log, text(*lines))
