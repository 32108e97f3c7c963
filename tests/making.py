"""Programs of many kinds for the tests: small ones made by chance, and some that are made for an edge."""

import random

from showncalls.base.facts import Fact
from showncalls.base.programs import Procedure, Program
from showncalls.errors import InvalidOperation, InvalidProgram


class Maker:
    """Makes programs by chance, the same ones for the same seed."""

    def __init__(self, seed, *, shared=({}, {"x": 2}, {"x": 2, "y": 2}, {"x": 3}), most=3, statements=5, quiet=0.4, depth=3):
        self.chance = random.Random(seed)
        self.shared_kinds = shared
        self.most = most
        self.statements = statements
        self.quiet = quiet
        self.depth = depth

    def program(self):
        """Any program."""
        while True:
            try:
                return self.try_program()
            except InvalidProgram:
                # Such as two asks of cells of different sizes with one word.
                pass

    def try_program(self):
        chance = self.chance
        self.shared = dict(chance.choice(self.shared_kinds))
        names = ["main", "p", "q", "r"][:chance.randint(1, self.most)]
        self.owns = {name: self.any_own(name) for name in names}
        made = []
        for name in names:
            self.cells = {**self.shared, **dict(self.owns[name])}
            self.left = chance.randint(1, self.statements)
            body = self.any_body(names[1:], 1)
            quiet = name != "main" and chance.random() < self.quiet
            made.append(Procedure(name, body, own=self.owns[name], quiet=quiet))
        return Program(self.shared, *made)

    def any_own(self, name):
        many = self.chance.choice([0, 0, 1, 1, 2])
        return tuple((f"{letter}{name[0]}", self.chance.choice([2, 2, 3])) for letter in "ab"[:many])

    def any_body(self, callable_names, depth):
        body = []
        while self.left > 0 and (not body or self.chance.random() < 0.7):
            self.left -= 1
            body.append(self.any_statement(callable_names, depth))
        return tuple(body)

    def any_statement(self, called, depth):
        chance = self.chance
        kinds = ["say", "say"] + (["call"] * 3 if called else []) + (["set", "hide", "ask", "say"] if self.cells else [])
        if depth < self.depth:
            kinds += ["either", "often"] + (["if"] if self.cells else [])
        kind = chance.choice(kinds)
        cell = chance.choice(sorted(self.cells)) if self.cells else None
        if kind == "set":
            keys = tuple(chance.sample(sorted(self.cells), chance.randint(0, min(2, len(self.cells)))))
            many = 1
            for key in keys:
                many *= self.cells[key]
            if many > 16:
                return ("hide", cell)
            return ("set", cell, keys, tuple(chance.randrange(self.cells[cell]) for _ in range(many)))
        if kind == "hide":
            return ("hide", cell)
        if kind == "ask":
            return ("ask", chance.choice("uv") + "ab"[self.cells[cell] == 2], cell)
        if kind == "say":
            return ("say", chance.choice("vw"), chance.choice([cell, cell, None]))
        if kind == "call":
            return self.any_call(chance.choice(called))
        inner = [() if chance.random() < 0.2 else self.any_body(called, depth + 1) for _ in range(2)]
        if kind == "if":
            return ("if", cell, chance.randrange(self.cells[cell]), *inner)
        return ("either", *inner) if kind == "either" else ("often", inner[0])

    def any_call(self, name):
        own = self.owns[name]
        fitting = [cell for cell in sorted(self.cells) if own and self.cells[cell] == own[0][1]]
        passed = [self.chance.choice(fitting) if fitting and self.chance.random() < 0.6 else None for _ in range(2)]
        return ("call", name, *passed)


def changed(chance, program):
    """A program that differs from this one in some small thing, or in nothing."""
    name = chance.choice(program.names)
    old = program[name]
    kind = chance.choice(["still", "quiet", "less", "word", "cell", "renamed", "same", "twice"])
    try:
        if kind == "still":
            still = chance.choice([("either", (), ()), ("often", ()), ("either", (("either", (), ()),), ())])
            at = chance.randint(0, len(old.body))
            return program.with_procedure(Procedure(name, old.body[:at] + (still,) + old.body[at:], own=old.own, quiet=old.quiet))
        if kind == "quiet":
            return program.with_quiet(name, not old.quiet)
        if kind in ("less", "twice"):
            at = chance.randrange(len(old.body))
            body = old.body[:at] + (old.body[at + 1:] if kind == "less" else old.body[at:at + 1] + old.body[at:])
            return program.with_procedure(Procedure(name, body, own=old.own, quiet=old.quiet))
        if kind == "word":
            return without_word(program, chance.choice(program.words))
        if kind == "cell":
            return program.with_shared("zz", 2)
        if kind == "renamed":
            return program.renamed({name: "new"})
    except (InvalidOperation, IndexError, ValueError):
        # The result would have been none.
        pass
    return program


def without_word(program, word):
    """The program that does not say a word, and asks with it as if it were a hide."""
    def less(body):
        found = []
        for statement in body:
            if statement[:2] == ("say", word):
                continue
            if statement[:2] == ("ask", word):
                statement = ("hide", statement[2])
            inner = {"if": 3, "either": 1, "often": 1}.get(statement[0])
            if inner:
                statement = statement[:inner] + tuple(less(part) for part in statement[inner:])
            found.append(statement)
        return tuple(found)

    return Program(program.shared, *[Procedure(one.called, less(one.body), own=one.own, quiet=one.quiet)
                                     for one in program.procedures])


def facts_of(program):
    """All facts over the shared cells of a program."""
    every = Fact.every(program.shared).standings
    for bits in range(2 ** len(every)):
        yield Fact(program.shared, tuple(row for at, row in enumerate(every) if bits >> at & 1))


SAY = ("say", "w", None)


def procedure(name, *body, **named):
    return Procedure(name, body, **named)


def call(name, given=None, taken=None):
    return ("call", name, given, taken)


def with_knowings(more):
    """A program whose least table has 400 knowings, and so many more or less."""
    # Behind three asks of four numbers each, each of five places has 64 knowings, which know all; ahead of them there
    # are 4 + 4 + 16, and within the calls 25 + 25 + 6.
    asks = (("ask", "w", "x"), ("ask", "w", "y"), ("ask", "w", "a"))
    return Program(
        {"x": 4, "y": 4}, procedure("main", call("p"), call("q"), call("r"), *asks, *[SAY] * 4, own=(("a", 4),)),
        procedure("p", *[SAY] * 24), procedure("q", *[SAY] * 24), procedure("r", *[SAY] * (5 + more)),
    )


def with_lines(more):
    """A program of whose x the number is known first at a log of 2000 lines, and so many more or less."""
    # A call of p has 26 lines, one of q has 24 * 26 + 2, one of r has 14.
    body = [call("q")] * 3 + [call("p")] * 4 + [call("r")] + [SAY] * (2 + more)
    return Program(
        {"x": 2}, procedure("main", *body, ("set", "x", (), (1,)), ("say", "end", None)),
        procedure("p", *[SAY] * 24), procedure("q", *[call("p")] * 24), procedure("r", *[SAY] * 12),
    )


def straight_log(program):
    """The log of a program that has no choices, told from its bodies: of all lines, also of the leave of main."""
    def lines(name):
        inner = []
        for statement in program[name].body:
            if statement[0] == "say":
                inner.append(statement[:2])
            elif statement[0] == "call":
                inner.extend(lines(statement[1]))
        return [("enter", name), *inner, ("leave", name)]

    return tuple(lines("main"))


def with_moves(more):
    """A program of which the runs with the log (enter main, say w) have 1000 moves, and so many more or less."""
    # A call of r has 26 moves, one of q has 24 * 26 + 2, one of t has 8; all are silent.
    turn = ("set", "x", ("x",), (1, 0))
    return Program(
        {"x": 2}, procedure("main", call("q"), *[call("r")] * 14, call("t"), *[turn] * (1 + more), SAY),
        procedure("q", *[call("r")] * 24, quiet=True), procedure("r", *[turn] * 24, quiet=True),
        procedure("t", *[turn] * 6, quiet=True),
    )


# Each procedure calls the next one 24 times: what stands behind all this is known at a very long log alone.
HUGE_LOGS = Program(
    {"x": 2}, procedure("main", call("a"), ("set", "x", (), (0,)), SAY),
    *[procedure(name, *[call(following)] * 24) for name, following in zip("abcdef", "bcdefg")], procedure("g", SAY),
)


def huge_length():
    """The number of lines of the shortest log of HUGE_LOGS at which x is known."""
    many = 3
    for _ in range(6):
        many = 24 * many + 2
    return 1 + many + 1
