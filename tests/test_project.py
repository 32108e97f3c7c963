"""[18.1]: projects, which change and keep their promises."""

from showncalls.base.facts import Fact
from showncalls.base.programs import Procedure, Program
from showncalls.compare.alike import are_alike
from showncalls.compare.more import gives_no_more
from showncalls.compare.silent import is_silent
from showncalls.errors import (
    CallError, InvalidNumber, InvalidOperation, InvalidProgram, NothingToUndo, Refused, TooMany, UnknownName,
)
from showncalls.give.ends import is_settled
from showncalls.give.left import Left
from showncalls.house.project import Project
from tests.helper import DEEP, HALF, HUGE, MIRROR, ODD, OUTER, Case
from tests.making import SAY, Maker, call, changed, facts_of, procedure, with_knowings

HUSH = HALF.with_procedure(Procedure("main", HALF["main"].body[:2], own=(("s", 2),)))
ONE = Fact.where(HALF.shared, {"x": 1})
EVERY = Fact.every(HALF.shared)
SILENT = Program({"x": 2}, procedure("main", SAY, call("p")), procedure("p", ("say", "v", None)))
PROMISES = (("never", ONE), ("known", EVERY), ("settled", EVERY), ("silent",), ("alike", HUSH), ("no more", HALF))
DEEDS = ("promise", "forget", "put", "drop", "hush")


def is_true(program, promise):
    kind, about = (promise + (None,))[:2]
    return {"never": lambda: about not in Left(program), "known": lambda: about in Left(program), "settled": lambda: is_settled(program, about),
            "silent": lambda: is_silent(program), "alike": lambda: are_alike(program, about), "no more": lambda: gives_no_more(program, about)}[kind]()


def shown(project):
    """All that a project tells of itself."""
    return (project.program, project.promises, list(project.promises), project.deeds, len(project), str(project))


def deep(project):
    """How many deeds can be taken back, and how many can be done again."""
    twin = project.twin()
    backwards = twin.undo(many=0)
    forwards = 0
    while True:
        try:
            twin.redo()
            forwards += 1
        except NothingToUndo:
            return backwards, forwards


class Promises(Case):
    def test_the_documents_example(self):
        project = Project(HUSH)
        self.same(project.promise("secret", "never", ONE), None)
        self.same([project.deeds, project.program == HUSH, project.undo(), len(project), project.redo(), list(project.promises)],
                  [("promise",), True, 0, 0, 1, ["secret"]])
        before = shown(project)
        self.same(self.fails(Refused, project.put, HALF["main"]).name, "secret")
        self.assertEqual(shown(project), before)

    def test_each_kind(self):
        for promise in PROMISES:
            project = Project(HUSH)
            if is_true(HUSH, promise):
                project.promise("it", *promise)
                self.assertEqual((project.promises, project["it"], project.deeds), ({"it": promise}, promise, ("promise",)))
            else:
                self.same(self.fails(Refused, project.promise, "it", *promise).name, "it")
                self.same([project.promises, project.deeds], [{}, ()])
        self.same([is_true(HUSH, promise) for promise in PROMISES], [True, True, True, False, True, True])
        project = Project(SILENT)
        project.promise("quiet", "silent")
        self.same([project["quiet"], str(project)], [("silent",), "project of 2 procedures, 1 promises"])

    def test_promises_that_are_kept_or_not(self):
        many = {True: 0, False: 0}
        for seed in range(40):
            maker = Maker(seed + 4700, statements=5, shared=({"x": 2}, {"x": 2, "y": 2}))
            program = maker.program()
            other = changed(maker.chance, program)
            facts = maker.chance.sample(list(facts_of(program)), 2)
            promises = [(kind, fact) for kind in ("never", "known", "settled") for fact in facts] + [("silent",), ("alike", other)]
            promises += [("no more", other)] if other.shared == program.shared else []
            for at, promise in enumerate(promises):
                project = Project(program)
                due = is_true(program, promise)
                many[due] += 1
                if due:
                    project.promise("it", *promise)
                    self.assertEqual(project["it"], promise)
                else:
                    self.fails(Refused, project.promise, "it", *promise)
        self.assertGreater(min(many.values()), 60)

    def test_they_ascend_by_their_names(self):
        project = Project(HUSH)
        for name in ("c", "a", "zz", "b"):
            project.promise(name, "never", ONE)
        self.same([list(project.promises), len(project), project.deeds], [["a", "b", "c", "zz"], 4, ("promise",) * 4])
        project.forget("b")
        project.promise("b", "known", EVERY)
        self.same([list(project.promises), project["b"][0]], [["a", "b", "c", "zz"], "known"])

    def test_names_and_forms(self):
        project = Project(HUSH)
        project.promise("old", "never", ONE)
        for name in ODD + ("old", "Old", "a b", "abcdefghi", ("a",), ["a"]):
            self.fails(InvalidOperation, project.promise, name, "never", ONE)
        for parts in [(), ("never",), ("never", ONE, ONE), ("Never", ONE), ("never", ONE.standings), ("never", None), (None, ONE), (["never"], ONE), (("never", ONE),), ("silent", ONE),
                      ("silent", None), ("silent", ()), ("alike",), ("alike", None), ("alike", ONE), ("alike", HUSH, HUSH), ("no more", OUTER), ("no more", ONE), ("no more",), ("known", HUSH),
                      ("settled", OUTER), ("never", Fact.where(OUTER.shared, {"n": 1})), ("known", Fact({})), ("settled", Fact({"k": 2, "y": 2})), ("nomore", HUSH), (ONE,), (HUSH,), (True,),
                      ("no more", MIRROR), ("alike", "never"), ("never", "silent")] + [(value,) for value in ODD] + [(value, ONE) for value in ODD] + [
                          ("never", value) for value in ODD] + [("alike", value) for value in ODD if not isinstance(value, Program)]:
            self.fails(InvalidOperation, project.promise, "new", *parts)
        self.same([list(project.promises), project.deeds], [["old"], ("promise",)])
        project.promise("other", "alike", HUSH.with_shared("z", 2))
        self.same(self.fails(Refused, project.promise, "apart", "alike", OUTER).name, "apart")

    def test_too_many(self):
        great = with_knowings(1)
        project = Project(great)
        fact = Fact(great.shared)
        for promise in (("never", fact), ("known", fact), ("settled", fact), ("silent",), ("alike", great), ("no more", great)):
            self.assertEqual(self.fails(TooMany, project.promise, "new", *promise).limit, 400)
            self.fails(InvalidOperation, project.promise, "Wrong", *promise)
        small = Program(great.shared, procedure("main", SAY))
        self.assertEqual(self.fails(TooMany, Project(small).promise, "new", "no more", great).limit, 400)
        self.same([shown(project)[1:4], deep(project)], [({}, [], ()), (0, 0)])
        # What has few pairs of knowings with it can be told.
        project = Project(small)
        self.fails(Refused, project.promise, "new", "alike", great)
        project.promise("fine", "never", fact)
        self.same([list(project.promises), project.deeds], [["fine"], ("promise",)])


class Changes(Case):
    def test_put_drop_and_hush(self):
        project = Project(MIRROR)
        new = procedure("q", SAY)
        self.same([project.put(new), project.hush("q", True), project.hush("p", True)], [None] * 3)
        self.assertEqual(project.program, MIRROR.with_procedure(new).with_quiet("q", True).with_quiet("p", True))
        project.drop("q")
        self.assertEqual(project.program, MIRROR.with_quiet("p", True))
        project.put(procedure("main", SAY))
        # Behind the main one the next one is main, if it can be.
        self.fails(InvalidOperation, project.drop, "main")
        project.hush("p", False)
        self.fails(InvalidOperation, project.drop, "main")
        project.put(procedure("p", SAY))
        project.drop("main")
        self.same([project.program.main, project.deeds], ["p", ("put", "hush", "hush", "drop", "put", "hush", "put", "drop")])

    def test_their_errors(self):
        project = Project(MIRROR)
        for value in ODD:
            if not isinstance(value, Procedure):
                self.fails(InvalidOperation, project.put, value)
            self.same(self.fails(UnknownName, project.drop, value).name, value)
            self.same(self.fails(UnknownName, project.hush, value, True).name, value)
            self.same(self.fails(UnknownName, project.hush, value, None).name, value)
            if not isinstance(value, bool):
                self.fails(InvalidOperation, project.hush, "p", value)
        self.fails(InvalidOperation, project.hush, "main", True)
        self.fails(InvalidOperation, project.drop, "p")
        self.fails(InvalidOperation, project.put, procedure("q", call("zz")))
        self.same([project.program == MIRROR, project.deeds, deep(project)], [True, (), (0, 0)])
        # Promises are asked last.
        project = Project(HUSH)
        project.promise("secret", "never", ONE)
        self.fails(InvalidOperation, project.put, HALF)
        self.fails(InvalidOperation, project.put, procedure("main", ("say", "b", "zz")))

    def test_the_first_promise_decides(self):
        for names in (("b", "c", "a"), ("a", "b", "c"), ("c", "b", "a")):
            project = Project(HUSH)
            for name in names:
                project.promise(name, *{"a": ("known", EVERY), "b": ("never", ONE), "c": ("alike", HUSH)}[name])
            self.same(self.fails(Refused, project.put, HALF["main"]).name, "b")
            project.forget("b")
            self.same(self.fails(Refused, project.put, HALF["main"]).name, "c")
            project.forget("c")
            project.put(HALF["main"])
            self.assertEqual(project.program, HALF)

    def test_too_many_or_refused_by_the_first_one(self):
        great = with_knowings(1)
        small = great.with_procedure(procedure("main", call("p"), call("q"), call("r")))
        fact = Fact.where(great.shared, {"x": 1})
        for first, second, due in ((("never", fact), ("alike", small), TooMany), (("alike", small), ("never", fact), Refused)):
            project = Project(small)
            project.promise("b", *second)
            project.promise("a", *first)
            before = shown(project)
            error = self.fails(due, project.put, great["main"])
            self.same(error.limit if due is TooMany else error.name, 400 if due is TooMany else "a")
            self.assertEqual(shown(project), before)

    def test_without_promises_all_can_be_put(self):
        great = with_knowings(1)
        project = Project(great)
        project.put(procedure("s", SAY))
        self.same([len(project.program), project.deeds], [5, ("put",)])

    def test_forget(self):
        project = Project(HUSH)
        project.promise("secret", "never", ONE)
        for name in ODD + ("other", "Secret", ("secret",)):
            self.same(self.fails(UnknownName, project.forget, name).name, name)
            with self.assertRaises(UnknownName):
                project[name]
        self.same([project.forget("secret"), project.promises, project.deeds], [None, {}, ("promise", "forget")])
        self.same(self.fails(UnknownName, project.forget, "secret").name, "secret")

    def test_what_is_returned_is_a_copy(self):
        project = Project(HUSH)
        project.promise("secret", "never", ONE)
        promises = project.promises
        promises.clear()
        promises["new"] = 1
        self.same([list(project.promises), project["secret"][0], "new" in project], [["secret"], "never", False])


class Undone(Case):
    def test_undo_and_redo(self):
        project = Project(MIRROR)
        project.put(procedure("q", SAY))
        project.hush("q", True)
        project.promise("same", "alike", MIRROR)
        self.same([project.undo(many=0), project.redo(many=0), project.undo(many=2), project.deeds, len(project)], [3, 3, 1, ("put",), 0])
        self.assertEqual(project.program, MIRROR.with_procedure(procedure("q", SAY)))
        self.same([project.redo(), project.deeds, project.redo(), project.deeds], [2, ("put", "hush"), 3, ("put", "hush", "promise")])
        self.same([project.undo(many=3), project.program == MIRROR, project.deeds, project.redo(many=3), list(project.promises)], [0, True, (), 3, ["same"]])

    def test_a_new_deed_behind_undone_ones(self):
        project = Project(MIRROR)
        project.put(procedure("q", SAY))
        project.put(procedure("r", SAY))
        project.undo(many=2)
        # One that raises an error is none.
        self.fails(UnknownName, project.drop, "q")
        self.fails(Refused, project.promise, "new", "alike", OUTER)
        self.same([deep(project), project.redo()], [(0, 2), 1])
        project.hush("q", True)
        self.same([project.deeds, deep(project)], [("put", "hush"), (2, 0)])
        self.same(self.fails(NothingToUndo, project.redo).many, 1)
        project.undo()
        self.same([project.redo(), project.program["q"].quiet], [2, True])

    def test_too_many(self):
        project = Project(MIRROR)
        for ask in (project.undo, project.redo):
            for value in ODD + (-1, -HUGE, "1", 1.5):
                if isinstance(value, bool) or not isinstance(value, int) or value < 0:
                    self.same(self.fails(InvalidNumber, ask, many=value).value, value)
            for many in (1, 2, HUGE):
                self.same(self.fails(NothingToUndo, ask, many=many).many, many)
            self.same(ask(many=0), 0)
            with self.assertRaises(TypeError):
                ask(1)
        project.put(procedure("q", SAY))
        self.same([self.fails(NothingToUndo, project.undo, many=2).many, self.fails(NothingToUndo, project.redo).many, project.undo()], [2, 1, 0])
        self.same([self.fails(NothingToUndo, project.undo).many, self.fails(NothingToUndo, project.redo, many=2).many, project.redo()], [1, 2, 1])

    def test_rows_of_deeds_against_a_list_of_states(self):
        for seed in range(25):
            maker = Maker(seed + 4900, statements=4, shared=({"x": 2}, {"x": 2, "y": 2}))
            chance = maker.chance
            start = maker.program()
            project = Project(start)
            states, deeds, at = [(start, {})], [], 0
            for _ in range(40):
                program, promises = states[at]
                kind = chance.choice(DEEDS + ("promise", "put", "undo", "redo", "undo", "redo"))
                name = chance.choice("abc")
                try:
                    if kind in ("undo", "redo"):
                        many = chance.choice([0, 1, 1, 2, 3])
                        most = at if kind == "undo" else len(deeds) - at
                        if many <= most:
                            at += many if kind == "redo" else -many
                            self.same(getattr(project, kind)(many=many), at)
                        else:
                            self.same(self.fails(NothingToUndo, getattr(project, kind), many=many).many, many)
                        continue
                    new_program, new_promises, args = self.done(maker, kind, name, program, promises)
                except (ValueError, LookupError, ArithmeticError) as error:
                    # What the deed would need is not there; the project says so in the same way.
                    self.refused(project, kind, error.args[0] if error.args else (), error)
                else:
                    broken = [each for each in sorted(new_promises) if not is_true(new_program, new_promises[each])]
                    if broken:
                        self.same(self.fails(Refused, getattr(project, kind), *args).name, broken[0])
                    else:
                        self.same(getattr(project, kind)(*args), None)
                        states[at + 1:] = [(new_program, new_promises)]
                        deeds[at:] = [kind]
                        at += 1
                self.assertEqual((project.program, project.promises, project.deeds), (*states[at], tuple(deeds[:at])))
                self.same(deep(project), (at, len(deeds) - at))

    def done(self, maker, kind, name, program, promises):
        """The program and the promises behind a deed, and the arguments that it takes."""
        chance = maker.chance
        if kind == "promise":
            fact = chance.choice(list(facts_of(program)))
            promise = chance.choice([("never", fact), ("known", fact), ("settled", fact), ("silent",), ("alike", program), ("no more", program)])
            if name in promises:
                raise ValueError(("promise", name, *promise))
            return program, {**promises, name: promise}, (name, *promise)
        if kind == "forget":
            if name not in promises:
                raise LookupError(("forget", name))
            return program, {each: promises[each] for each in promises if each != name}, (name,)
        if kind == "put":
            other = changed(chance, program)
            one = chance.choice(other.procedures) if other.shared == program.shared else program.procedures[0]
            try:
                return program.with_procedure(one), promises, (one,)
            except InvalidOperation:
                raise ValueError(("put", one)) from None
        name = chance.choice(program.names + ("zz",))
        args = (name,) if kind == "drop" else (name, chance.choice([True, False]))
        try:
            return (program.without if kind == "drop" else program.with_quiet)(*args), promises, args
        except InvalidOperation:
            raise ValueError((kind, *args)) from None
        except UnknownName:
            raise LookupError((kind, *args)) from None

    def refused(self, project, kind, told, error):
        due = InvalidOperation if isinstance(error, ValueError) else UnknownName
        before = shown(project)
        self.fails(due, getattr(project, kind), *told[1:])
        self.assertEqual(shown(project), before)


class Tries(Case):
    def made(self):
        project = Project(HUSH)
        project.promise("secret", "never", ONE)
        project.put(procedure("q", SAY))
        project.put(procedure("r", SAY))
        project.undo()
        return project

    def worked(self, project):
        project.redo()
        project.forget("secret")
        project.undo(many=3)
        project.put(procedure("s", SAY))
        project.hush("s", True)
        project.promise("new", "known", EVERY)
        return len(project)

    def same_as(self, project, other):
        self.assertEqual((shown(project), deep(project)), (shown(other), deep(other)))
        self.same([project.redo(), project.deeds, len(project.program)], [3, ("promise", "put", "put"), 3])

    def test_a_block(self):
        project = self.made()
        with project.trial() as same:
            self.assertIs(same, project)
            self.same(self.worked(same), 2)
            self.same([project.deeds, deep(project)], [("promise", "put", "hush", "promise"), (4, 0)])
        self.same_as(project, self.made())

    def test_a_block_that_ends_by_an_error(self):
        for error in (KeyError, Refused("secret"), ValueError("x")):
            project = self.made()
            with self.assertRaises(error if isinstance(error, type) else error.__class__):
                with project.trial() as same:
                    self.worked(same)
                    raise error
            self.same_as(project, self.made())
        project = self.made()
        with self.assertRaises(Refused):
            with project.trial():
                project.put(HALF["main"])
        self.same_as(project, self.made())

    def test_a_call(self):
        project = self.made()
        self.same(project.during(self.worked), 2)
        self.assertIs(project.during(lambda same: same is project), True)
        self.same_as(project, self.made())
        project = self.made()
        with self.assertRaises(ZeroDivisionError):
            project.during(lambda same: (self.worked(same), 1 // 0))
        self.same_as(project, self.made())

    def test_blocks_within_blocks(self):
        project = self.made()
        with project.trial():
            project.forget("secret")
            with project.trial():
                self.worked(project) if "secret" in project else project.put(procedure("t", SAY))
                project.undo(many=2)
            self.same([project.deeds, deep(project)], [("promise", "put", "forget"), (3, 0)])
            project.during(lambda same: same.undo(many=3))
            self.same(project.deeds, ("promise", "put", "forget"))
        self.same_as(project, self.made())

    def test_twins(self):
        project = self.made()
        twin = project.twin()
        self.same([twin == project, twin is project, deep(twin)], [True, False, (2, 1)])
        self.worked(twin)
        self.same_as(project, self.made())
        twin = project.twin()
        project.undo(many=3)
        self.same([twin.deeds, deep(twin)], [("promise", "put", "put"), (3, 0)])
        with project.trial():
            other = project.twin()
            other.put(procedure("zz", SAY))
        self.same([project.deeds, other.deeds], [(), ("put",)])


class Told(Case):
    def test_equality(self):
        one, other = Project(HUSH), Project(Program.of(HUSH.shared, HUSH.procedures))
        self.same([one == other, one != other], [True, False])
        one.promise("secret", "never", ONE)
        self.same([one == other, one != other], [False, True])
        other.put(procedure("q", SAY))
        other.drop("q")
        other.promise("secret", "never", Fact(ONE.cells, ONE.standings))
        # The deeds do not count.
        self.same([one == other, one.deeds == other.deeds], [True, False])
        one.promise("alike", "alike", HUSH)
        other.promise("alike", "alike", HUSH.with_shared("z", 2))
        self.assertIs(one == other, False)
        for value in ODD + (HUSH, {}, "secret"):
            self.same([one == value, one != value, value == one], [False, True, False])

    def test_in_len_and_str(self):
        project = Project(MIRROR)
        self.same([len(project), str(project), "main" in project], [0, "project of 2 procedures, 0 promises", False])
        project.promise("one", "alike", MIRROR)
        project.put(procedure("q"))
        self.same([len(project), str(project), "one" in project, "promise" in project], [1, "project of 3 procedures, 1 promises", True, False])
        for value in ODD + (["one"], ("one",), {"one": 1}):
            self.assertIs(value in project, False)

    def test_no_iteration(self):
        project = Project(MIRROR)
        for ask in (iter, list, tuple, sorted):
            with self.assertRaises(TypeError):
                ask(project)

    def test_programs(self):
        for value in ODD:
            if not isinstance(value, Program):
                self.fails(InvalidProgram, Project, value)
        self.assertTrue(issubclass(InvalidProgram, CallError))
        self.assertEqual(Project(DEEP).program, DEEP)
