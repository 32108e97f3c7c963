"""[0.1] to [0.6], [0.11], and the section of facts."""

import itertools

from showncalls.base.facts import Fact
from showncalls.errors import InvalidFact, InvalidOperation, UnknownName
from tests.helper import HUGE, ODD, Case

CELLS = {"x": 2, "y": 3}
BACKWARDS = {"y": 3, "x": 2}
ALL = ((0, 0), (0, 1), (0, 2), (1, 0), (1, 1), (1, 2))
GOOD_CELLS = (
    {}, {"x": 2}, {"x": 4}, {"abcdefgh": 3}, {"a": 4, "b": 4}, {"a": 2, "b": 2, "c": 2, "d": 2},
    {"a": 2, "b": 4, "c": 2}, {"a": 3, "b": 3}, {"a": 3, "b": 2, "c": 2},
)
NO_CELLS = ODD + (
    {"a": 4, "b": 3, "c": 2}, {"a": 3, "b": 3, "c": 2}, {"a": 4, "b": 4, "c": 2}, {"a": 2, "b": 2, "c": 2, "d": 3},
    {name: 2 for name in "abcde"}, {name: 1 for name in "abcde"}, {"abcdefghi": 2}, {"": 2}, {"x": 2, "y": True},
    {"x": False}, {"x": HUGE}, {"x": (2,)}, {"x": "2"}, {"x": 0}, {"x": -2}, {("x",): 2}, {"x": 2, 1: 2},
    (("x", 2),), [("x", 2)], "x",
)
# Over {"x": 2, "y": 3}.
NO_STANDINGS = ODD + (
    [], [(0, 0)], (0, 0), ((0,),), ((0, 0, 0),), ((2, 0),), ((0, 3),), ((0, -1),), ((0, HUGE),), ((0, True),),
    ((False, 0),), ((0, None),), ([0, 0],), ((0, 0), [0, 1]), ((0, 0), (0, 0)), ((0, 1), (0, 0)), ((1, 0), (0, 2)),
    ((0, 0), None), ("00",), {(0, 0): True}, ((0, "0"),), ((),),
)


def fact(*standings):
    return Fact(CELLS, standings)


def subsets():
    """All facts over two cells of two numbers."""
    pairs = list(itertools.product((0, 1), repeat=2))
    for many in range(5):
        for chosen in itertools.combinations(pairs, many):
            yield Fact({"a": 2, "b": 2}, chosen)


class Making(Case):
    def test_cells(self):
        for cells in GOOD_CELLS:
            made = Fact(cells)
            self.same([made.cells, made.standings], [dict(sorted(cells.items())), ()])
            self.assertEqual(Fact.every(cells).cells, cells)

    def test_no_cells(self):
        for value in NO_CELLS:
            for call in (Fact, Fact.every):
                self.fails(InvalidFact, call, value)
            self.fails(InvalidFact, Fact, value, ())
            self.fails(InvalidFact, Fact.where, value, {})
            self.fails(InvalidFact, Fact.alike, value, "x", "x")
            self.fails(InvalidFact, Fact({}).over, value)

    def test_standings(self):
        for standings in ((), ((0, 0),), ((1, 2),), ALL, ((0, 2), (1, 0))):
            self.same(Fact(CELLS, standings).standings, standings)
            self.same(Fact(BACKWARDS, standings).standings, standings)

    def test_no_standings(self):
        for value in NO_STANDINGS:
            self.fails(InvalidFact, Fact, CELLS, value)

    def test_both_wrong(self):
        for cells in NO_CELLS[:8]:
            for standings in NO_STANDINGS[:8]:
                self.fails(InvalidFact, Fact, cells, standings)

    def test_no_cells_have_one_standing(self):
        self.same([Fact({}).standings, Fact.every({}).standings, Fact({}, ((),)).standings], [(), ((),), ((),)])
        for value in (((), ()), ((0,),), ([],), (None,)):
            self.fails(InvalidFact, Fact, {}, value)

    def test_every(self):
        self.same(Fact.every(CELLS).standings, ALL)
        self.same(Fact.every(BACKWARDS).standings, ALL)
        self.assertEqual(len(Fact.every({"a": 4, "b": 4})), 16)

    def test_it_never_changes(self):
        made = fact((0, 1))
        for name in ("cells", "standings"):
            with self.assertRaises(AttributeError):
                setattr(made, name, ())
        self.same([made.cells, made.standings], [CELLS, ((0, 1),)])


class Where(Case):
    def test_where(self):
        self.same(Fact.where(CELLS, {"x": 1}).standings, ((1, 0), (1, 1), (1, 2)))
        self.same(Fact.where(BACKWARDS, {"y": 2}).standings, ((0, 2), (1, 2)))
        self.same(Fact.where(CELLS, {"y": 2, "x": 0}).standings, ((0, 2),))
        self.same(Fact.where(CELLS, {}).standings, ALL)
        self.same(Fact.where({}, {}).standings, ((),))

    def test_wrong_numbers(self):
        wrong = tuple(value for value in ODD if repr(value) != "{'x': 1}") + (
            {"x": 2}, {"y": 3}, {"x": -1}, {"x": True}, {"x": False}, {"x": None}, {"x": HUGE}, {"x": (1,)},
            {"z": 0}, {"x": 0, "z": 0}, {"x": 0, "y": 3}, {("x",): 1}, {1: 1}, (("x", 1),), [("x", 1)], "x",
        )
        for value in wrong:
            self.fails(InvalidFact, Fact.where, CELLS, value)

    def test_nothing_can_be_told_about_no_cells(self):
        self.fails(InvalidFact, Fact.where, {}, {"x": 0})

    def test_alike(self):
        self.same(Fact.alike(CELLS, "x", "y").standings, ((0, 0), (1, 1)))
        self.same(Fact.alike(BACKWARDS, "y", "x").standings, ((0, 0), (1, 1)))
        self.same(Fact.alike(CELLS, "x", "x").standings, ALL)
        due = ((0, 0, 0), (0, 1, 0), (1, 0, 1), (1, 1, 1))
        self.same(Fact.alike({"a": 2, "b": 2, "c": 2}, "a", "c").standings, due)
        self.same(Fact.alike({"b": 2, "c": 2, "a": 2}, "c", "a").standings, due)

    def test_alike_with_unknown_cells(self):
        for name in ODD + ("z", "xy", "X", ["x"], ("x",), {"x": 2}):
            self.same(self.fails(UnknownName, Fact.alike, CELLS, name, "x").name, name)
            self.same(self.fails(UnknownName, Fact.alike, CELLS, "x", name).name, name)
            self.same(self.fails(UnknownName, Fact.alike, CELLS, name, "nothing").name, name)
        self.same(self.fails(UnknownName, Fact.alike, CELLS, "one", "other").name, "one")
        self.same(self.fails(UnknownName, Fact.alike, {}, "x", "y").name, "x")

    def test_the_cells_are_checked_first(self):
        self.fails(InvalidFact, Fact.alike, {"x": 1}, "q", None)
        self.fails(InvalidFact, Fact.alike, None, None, None)


class Asking(Case):
    def test_numbers(self):
        made = fact((0, 2), (1, 0), (1, 2))
        self.same([made.numbers("x"), made.numbers("y")], [(0, 1), (0, 2)])
        self.same([Fact(CELLS).numbers("x"), Fact.every(CELLS).numbers("y")], [(), (0, 1, 2)])

    def test_unknown_names(self):
        for name in ODD + ("z", ["x"], ("x",), {"x": 2}):
            self.same(self.fails(UnknownName, Fact.every(CELLS).numbers, name).name, name)
            self.same(self.fails(UnknownName, Fact.every(CELLS).without, name).name, name)
            self.same(self.fails(UnknownName, Fact({}).without, name).name, name)

    def test_in(self):
        made = fact((0, 1), (1, 2))
        self.same([(0, 1) in made, (1, 2) in made, (0, 0) in made], [True, True, False])
        self.same([() in Fact({}), () in Fact({}, ((),)), (0,) in Fact({}, ((),))], [False, True, False])

    def test_in_takes_every_value(self):
        every = Fact.every({"x": 2})
        for value in ODD + ((True,), (False,), [0], [1], "0", ((0,),), (0, 0), (2,), Fact({"x": 2}, ((0,),))):
            if repr(value) != "(1,)":
                self.assertIs(value in every, False, value)
                self.assertIs(value not in every, True, value)

    def test_size_and_truth(self):
        self.same([len(fact()), len(fact((0, 0))), len(Fact.every(CELLS))], [0, 1, 6])
        self.same([bool(fact()), bool(fact((0, 0))), bool(Fact({})), bool(Fact.every({}))], [False, True, False, True])

    def test_text(self):
        for standings, due in (((), 0), (ALL[:1], 1), (ALL[:2], 2), (ALL, 6)):
            self.assertEqual(str(fact(*standings)), f"fact of {due} standings")

    def test_no_iteration(self):
        for call in (iter, list, tuple, sorted, enumerate):
            with self.assertRaises(TypeError):
                call(Fact.every(CELLS))
        with self.assertRaises(TypeError):
            for standing in Fact(CELLS):
                pass


class Equality(Case):
    def test_equal(self):
        self.assertTrue(fact((0, 1)) == Fact(BACKWARDS, ((0, 1),)))
        self.assertFalse(fact((0, 1)) != Fact(BACKWARDS, ((0, 1),)))

    def test_not_equal(self):
        others = (fact((0, 2)), fact(), fact((0, 1), (0, 2)), Fact({"x": 2, "y": 4}, ((0, 1),)),
                  Fact({"x": 2, "z": 3}, ((0, 1),)), Fact({}))
        for other in others + ODD:
            self.assertIs(fact((0, 1)) == other, False)
            self.assertIs(fact((0, 1)) != other, True)
            self.assertIs(other == fact((0, 1)), False)

    def test_empty_facts_over_other_cells_differ(self):
        self.assertIs(Fact({}) == Fact({"x": 2}), False)


class Operators(Case):
    def test_against_sets(self):
        for one in subsets():
            for other in subsets():
                mine, theirs = set(one.standings), set(other.standings)
                self.same((one & other).standings, tuple(sorted(mine & theirs)))
                self.same((one | other).standings, tuple(sorted(mine | theirs)))
                self.same((one - other).standings, tuple(sorted(mine - theirs)))
                self.assertIs(one.is_within(other), mine <= theirs)
            self.same((~one).standings, tuple(sorted(set(itertools.product((0, 1), repeat=2)) - mine)))
            self.same((~one).cells, {"a": 2, "b": 2})
            self.assertTrue(~~one == one)

    def test_all_others_of_none_of_one_and_of_sixteen(self):
        for cells in ({"a": 4, "b": 4}, {"a": 2, "b": 2, "c": 2, "d": 2}, {"a": 2, "b": 4, "c": 2}):
            every = Fact.every(cells).standings
            self.assertEqual(len(every), 16)
            for standings in ((), every[:1], every[5:6], every[-1:], every, every[1:], every[::2]):
                one = Fact(cells, standings)
                self.same((~one).standings, tuple(row for row in every if row not in standings))
                self.same([(~one).cells, one.cells, one.standings], [cells, cells, standings])

    def test_all_others_without_cells(self):
        for standings, others in (((), ((),)), (((),), ())):
            one = Fact({}, standings)
            self.same([(~one).standings, (~one).cells, one.standings, one.cells], [others, {}, standings, {}])

    def test_the_order_of_the_cells_does_not_matter(self):
        one, other = Fact(CELLS, ALL[:3]), Fact(BACKWARDS, ALL[2:])
        self.same([(one & other).standings, (one | other).standings, (one - other).standings], [ALL[2:3], ALL, ALL[:2]])
        self.same([(other & one).cells, one.is_within(other)], [CELLS, False])

    def test_no_cells(self):
        none, one = Fact({}), Fact.every({})
        self.same([(none | one).standings, (one & none).standings, (~none).standings, (~one).standings],
                  [((),), (), ((),), ()])

    def test_other_values(self):
        every = Fact.every(CELLS)
        others = ODD + (((0, 0),), Fact({"x": 2}), Fact({"x": 2, "y": 2}), Fact({"x": 2, "z": 3}),
                        Fact({"x": 2, "y": 3, "z": 2}), {"x": 2, "y": 3}, ALL)
        for other in others:
            self.fails(InvalidOperation, lambda: every & other)
            self.fails(InvalidOperation, lambda: every | other)
            self.fails(InvalidOperation, lambda: every - other)
            self.fails(InvalidOperation, every.is_within, other)
        self.same([every.cells, every.standings], [CELLS, ALL])

    def test_the_operands_stay_as_they_are(self):
        one, other = fact((0, 1), (1, 1)), fact((1, 1), (1, 2))
        made = [one & other, one | other, one - other, ~one]
        self.same([one.standings, other.standings], [((0, 1), (1, 1)), ((1, 1), (1, 2))])
        self.same([each.cells for each in made], [CELLS] * 4)


class OtherCells(Case):
    def test_without(self):
        made = fact((0, 2), (1, 0), (1, 2))
        self.same([made.without("x").cells, made.without("x").standings], [{"y": 3}, ((0,), (2,))])
        self.same([made.without("y").cells, made.without("y").standings], [{"x": 2}, ((0,), (1,))])
        self.same([made.without("x").without("y").cells, made.without("x").without("y").standings], [{}, ((),)])
        self.same([Fact(CELLS).without("x").without("y").standings, Fact(CELLS).without("y").cells], [(), {"x": 2}])

    def test_without_one_in_the_middle(self):
        made = Fact({"a": 2, "b": 2, "c": 2}, ((0, 0, 1), (0, 1, 1), (1, 0, 0), (1, 1, 1)))
        self.same(made.without("b").standings, ((0, 1), (1, 0), (1, 1)))
        self.same(made.without("a").standings, ((0, 0), (0, 1), (1, 1)))
        self.same(made.without("c").standings, ((0, 0), (0, 1), (1, 0), (1, 1)))

    def test_over(self):
        made = Fact({"b": 2}, ((1,),))
        self.same(made.over({"b": 2, "a": 2, "c": 2}).standings, ((0, 1, 0), (0, 1, 1), (1, 1, 0), (1, 1, 1)))
        self.same(made.over({"b": 2, "a": 2}).cells, {"a": 2, "b": 2})
        self.same(made.over({"b": 2}).standings, ((1,),))
        self.same([Fact({}).over(CELLS).standings, Fact.every({}).over(CELLS).standings], [(), ALL])
        self.same(fact((0, 2)).over({"x": 2, "m": 2, "y": 3}).standings, ((0, 0, 2), (1, 0, 2)))

    def test_over_and_without_undo_one_another(self):
        for one in subsets():
            self.assertTrue(one.over({"c": 2, "b": 2, "a": 2}).without("c") == one)

    def test_over_wrong_cells(self):
        made = Fact({"b": 2}, ((1,),))
        for cells in ({}, {"a": 2}, {"b": 3}, {"b": 3, "a": 2}, {"c": 2, "a": 2}):
            self.fails(InvalidOperation, made.over, cells)
        for cells in NO_CELLS:
            self.fails(InvalidFact, made.over, cells)
        # Neither cells, nor with the cell of the fact: the first error is raised.
        self.fails(InvalidFact, made.over, {"b": 5})
        self.fails(InvalidFact, made.over, {"a": 1})


class Copies(Case):
    def test_a_dict_that_was_passed(self):
        cells = {"y": 3, "x": 2}
        numbers = {"x": 1}
        made = [Fact(cells, ((0, 1),)), Fact.every(cells), Fact.where(cells, numbers), Fact.alike(cells, "x", "y"),
                Fact({}, ((),)).over(cells)]
        before = [(each.cells, each.standings) for each in made]
        cells["x"] = 4
        cells["z"] = 2
        numbers["y"] = 0
        self.same([(each.cells, each.standings) for each in made], before)

    def test_a_dict_that_was_returned(self):
        for made in (fact((0, 1)), ~fact((0, 1)), fact((0, 1)).over({"x": 2, "y": 3, "z": 2}).without("z")):
            made.cells["x"] = 4
            made.cells.clear()
            self.same(made.cells, CELLS)

    def test_the_keys_ascend(self):
        for made in (Fact(BACKWARDS), Fact.every(BACKWARDS), Fact.where(BACKWARDS, {}), Fact.alike(BACKWARDS, "y", "y"),
                     ~Fact(BACKWARDS), Fact({}).over(BACKWARDS)):
            self.assertEqual(list(made.cells), ["x", "y"])

    def test_arguments_stay_as_they_are(self):
        cells = {"y": 3, "x": 2}
        Fact.where(cells, {"y": 1})
        Fact({"y": 3}).over(cells)
        self.same(cells, {"y": 3, "x": 2})
