"""[0.10]: the numbers of statements, places, the place behind and the place into."""

import random

from showncalls.base.programs import Procedure, Program
from showncalls.errors import InvalidOperation, UnknownName
from tests.helper import DEEP, HUGE, MIRROR, ODD, OUTER, Case

SAY = ("say", "w", None)
END = ("say", "end", None)


def program(*body):
    return Program({"x": 2}, Procedure("main", body), Procedure("p", ()))


def behinds(*body):
    """The places behind all places of a body, the end too."""
    made = program(*body)
    return [made.behind("main", place) for place in range(len(made["main"]) + 1)]


def random_body(chance, depth, left):
    """Any body that is at most so deep; `left` is a list with the number of statements that it may still have."""
    body = []
    while left[0] > 0 and chance.random() < 0.7:
        left[0] -= 1
        kinds = ["say", "either", "if", "often"] if depth > 1 else ["say"]
        kind = chance.choice(kinds)
        many = {"say": 0, "either": 2, "if": 2, "often": 1}[kind]
        inner = tuple(random_body(chance, depth - 1, left) for _ in range(many))
        head = {"say": SAY, "either": ("either",), "if": ("if", "x", 1), "often": ("often",)}[kind]
        body.append(head + inner)
    return tuple(body)


def paths_in(body, path=()):
    """The paths of all statements, as tuples of indices of statements and of inner bodies in turn."""
    for at, statement in enumerate(body):
        yield path + (at,)
        for index, inner in enumerate(part for part in statement if isinstance(part, tuple)):
            yield from paths_in(inner, path + (at, index))


class Oracle:
    """Places by the paths of the statements: a place is looked up in the list of all paths."""

    def __init__(self, body):
        self.body = body
        self.paths = list(paths_in(body))

    def at(self, path):
        body, statement = self.body, None
        for turn, index in enumerate(path):
            if turn % 2 == 0:
                statement = body[index]
            else:
                body = [part for part in statement if isinstance(part, tuple)][index]
        return statement

    def behind(self, place):
        return self.behind_path(self.paths[place])

    def behind_path(self, path):
        following = path[:-1] + (path[-1] + 1,)
        if following in self.paths:
            return self.paths.index(following)
        if len(path) == 1:
            return len(self.paths)
        around = path[:-2]
        return self.paths.index(around) if self.at(around)[0] == "often" else self.behind_path(around)

    def into(self, place, index):
        path = self.paths[place]
        if path + (index, 0) in self.paths:
            return self.paths.index(path + (index, 0))
        return place if self.at(path)[0] == "often" else self.behind_path(path)


class Behind(Case):
    def test_in_a_row(self):
        self.same(behinds(), [0])
        self.same(behinds(SAY), [1, 1])
        self.same(behinds(SAY, SAY, END), [1, 2, 3, 3])

    def test_either_and_if(self):
        for head in (("either",), ("if", "x", 0)):
            self.same(behinds(head + ((), ())), [1, 1])
            self.same(behinds(head + ((SAY,), (SAY,)), END), [3, 3, 3, 4, 4])
            self.same(behinds(head + ((SAY, SAY), ()), END), [3, 2, 3, 4, 4])
            self.same(behinds(head + ((), (SAY, SAY))), [3, 2, 3, 3])

    def test_often(self):
        self.same(behinds(("often", ()), END), [1, 2, 2])
        self.same(behinds(("often", (SAY,)), END), [2, 0, 3, 3])
        self.same(behinds(SAY, ("often", (SAY, SAY))), [1, 4, 3, 1, 4])

    def test_an_often_as_the_last_statement_of_an_inner_body(self):
        self.same(behinds(("either", (SAY, ("often", (SAY,))), (SAY,)), END), [5, 2, 5, 2, 5, 6, 6])
        self.same(behinds(("often", (("often", (SAY,)),)), END), [3, 0, 1, 4, 4])
        self.same(behinds(("often", (("either", (SAY,), (SAY, SAY)),))), [5, 0, 0, 4, 0, 5])

    def test_against_paths(self):
        chance = random.Random(5)
        for _ in range(400):
            body = random_body(chance, 3, [24])
            made, oracle = program(*body), Oracle(body)
            self.assertEqual(len(made["main"]), len(oracle.paths))
            for place, path in enumerate(oracle.paths):
                statement = oracle.at(path)
                self.assertEqual(made.statement("main", place), statement)
                self.assertEqual(made.behind("main", place), oracle.behind(place))
                many = {"say": 0, "often": 1}.get(statement[0], 2)
                for index in range(many):
                    self.assertEqual(made.into("main", place, index), oracle.into(place, index))
                self.fails(InvalidOperation, made.into, "main", place, many)


class Into(Case):
    def test_bodies_with_statements(self):
        made = program(SAY, ("if", "x", 1, (SAY, SAY), (SAY,)), ("often", (("either", (SAY,), (SAY,)),)))
        self.same([made.into("main", 1, 0), made.into("main", 1, 1), made.into("main", 5, 0)], [2, 4, 6])
        self.same([made.into("main", 6, 0), made.into("main", 6, 1)], [7, 8])

    def test_empty_bodies(self):
        for head in (("either",), ("if", "x", 1)):
            made = program(head + ((), ()), head + ((), (SAY,)), head + ((SAY,), ()), END)
            self.same([made.into("main", 0, 0), made.into("main", 0, 1)], [1, 1])
            self.same([made.into("main", 1, 0), made.into("main", 1, 1)], [3, 2])
            self.same([made.into("main", 3, 0), made.into("main", 3, 1)], [4, 5])
            last = program(head + ((), ()))
            self.same([last.into("main", 0, 0), last.into("main", 0, 1)], [1, 1])

    def test_empty_bodies_of_an_often(self):
        made = program(SAY, ("often", ()), END)
        self.same(made.into("main", 1, 0), 1)

    def test_empty_bodies_at_the_end_of_an_often(self):
        made = program(("often", (SAY, ("either", (), ()))), END)
        self.same([made.into("main", 2, 0), made.into("main", 2, 1)], [0, 0])
        inner = program(("often", (SAY, ("often", ()))), END)
        self.same([inner.into("main", 2, 0), inner.behind("main", 2)], [2, 0])

    def test_no_such_body(self):
        made = program(SAY, ("often", (SAY,)), ("either", (SAY,), ()), ("hide", "x"), ("call", "p", None, None))
        for place in (0, 2, 4, 5, 6, 7):
            self.fails(InvalidOperation, made.into, "main", place, 0 if place != 3 else 2)
        self.fails(InvalidOperation, made.into, "main", 1, 1)
        self.fails(InvalidOperation, made.into, "main", 3, 2)
        for index in tuple(value for value in ODD if repr(value) not in ("0", "1")) + ("0", [0], (0,), (), True, False):
            self.fails(InvalidOperation, made.into, "main", 3, index)
            self.fails(InvalidOperation, made.into, "main", 1, index)


class Statements(Case):
    def test_statements(self):
        self.same([MIRROR.statement("p", place) for place in range(5)],
                  [MIRROR["p"].body[0], ("call", "p", None, None), ("set", "x", ("x",), (1, 0)), ("say", "at", "x"), None])
        self.same([DEEP.statement("p", place)[0] for place in range(4)], ["if", "say", "set", "call"])
        self.same([OUTER.statement("main", 0), OUTER.statement("main", 4)], [("hide", "a"), None])
        self.same([program().statement("main", 0), program().behind("main", 0), program().behind("p", 0)], [None, 0, 0])

    def test_no_places(self):
        places = tuple(value for value in ODD if repr(value) not in ("0", "1", "2", "3", "4"))
        for place in places + (5, 6, -1, HUGE, True, False, "0", [0], (0,), ()):
            self.fails(InvalidOperation, OUTER.statement, "main", place)
            self.fails(InvalidOperation, OUTER.behind, "main", place)
            self.fails(InvalidOperation, OUTER.into, "main", place, 0)
            self.fails(InvalidOperation, OUTER.into, "main", place, None)
        self.fails(InvalidOperation, OUTER.statement, "p", 3)
        self.fails(InvalidOperation, OUTER.behind, "p", 3)
        self.fails(InvalidOperation, OUTER.into, "p", 2, 0)

    def test_unknown_names_come_first(self):
        for name in ODD + ("q", ["main"], ("main",), "n"):
            for place in (0, None, 99):
                self.same(self.fails(UnknownName, OUTER.statement, name, place).name, name)
                self.same(self.fails(UnknownName, OUTER.behind, name, place).name, name)
                self.same(self.fails(UnknownName, OUTER.into, name, place, None).name, name)

    def test_the_places_of_a_renamed_procedure(self):
        made = MIRROR.renamed({"p": "q"})
        self.same([made.behind("q", 1), made.behind("q", 2), made.into("q", 0, 1)], [2, 4, 3])
        self.same(self.fails(UnknownName, made.behind, "p", 0).name, "p")
