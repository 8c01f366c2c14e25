"""Levels for a resolution, or why there are none [0.17] [0.30] [12.1]; stage 12."""

import itertools
import random
import unittest

from chosentrees.base.grammars import Grammar
from chosentrees.errors import InvalidNumber, InvalidOperation, InvalidResolution
from chosentrees.run.parsers import Parser
from chosentrees.table.levels import Levels, is_contained
from chosentrees.table.tables import KINDS, Table
from chosentrees.wish.filters import Filter, Wishes
from chosentrees.wish.papers import least_resolution
from chosentrees.wish.ranking import can_fit, free_needed, is_levels_paper, levels_paper

from samples import NEST, ODD, PAIRS, SUMS, USUAL
from small import all_grammars, told_grammars

ODD_RESOLUTION = {(4, "*"): "neg", (7, "+"): "shift", (8, "*"): "shift", (8, "+"): "plus"}


def all_levels(terminals, names):
    """All levels, as to what they mean for these terminals and for these names, which may have own levels."""
    points = [("terminal", each) for each in terminals] + [("name", each) for each in names]
    for ranks in itertools.product([None] + list(range(len(points))), repeat=len(points)):
        many = len({rank for rank in ranks if rank is not None})
        if {rank for rank in ranks if rank is not None} != set(range(many)):
            continue
        for row in itertools.product(("left", "right", "none"), repeat=many):
            groups = tuple((each, tuple(sorted(point for (word, point), rank in zip(points, ranks)
                                               if word == "terminal" and rank == at))) for at, each in enumerate(row))
            yield Levels(groups, own={point: rank for (word, point), rank in zip(points, ranks) if word == "name"})


def preferences(table, resolution):
    """All (lookahead, chosen, loser) of a resolution."""
    return {(cell[1], chosen, loser) for cell, chosen in resolution.items() for loser in table[cell] if loser != chosen}


def shifts_fit(table, told, levels):
    """Whether levels prefer what is told of shifts and reductions."""
    for lookahead, chosen, loser in told:
        if "shift" in (chosen, loser):
            if levels.prefers(table.grammar, lookahead, loser if chosen == "shift" else chosen) != chosen:
                return False
    return True


def order_fits(told, order):
    """Whether an order has each preferred reduction ahead of the other one."""
    return all(order.index(chosen) < order.index(loser) for lookahead, chosen, loser in told
               if not {chosen, loser} & {"shift", "accept"})


def has_levels(table, resolution, free):
    """Whether there are levels that fit, by going through all of them."""
    told = preferences(table, resolution)
    if any(loser == "accept" for lookahead, chosen, loser in told):
        return False
    if not any(order_fits(told, order) for order in itertools.permutations(table.grammar.names)):
        return False
    terminals = sorted({lookahead for lookahead, chosen, loser in told if lookahead != "$"} | {
        symbol for row in told for name in row[1:] if name in table.grammar for symbol in table.grammar[name][2]
        if symbol in table.grammar.terminals})
    return any(shifts_fit(table, told, levels) for levels in all_levels(terminals, free))


def some_resolutions(table, chooser, many):
    """Resolutions of random actions, and such by levels with a few actions that are not by them."""
    grammar, cells = table.grammar, table.cells
    for _ in range(many):
        yield {cell: chooser.choice(cells[cell]) for cell in cells if chooser.random() < 0.8}
        own = {name: chooser.choice((None, 0, 1)) for name in grammar.names if chooser.random() < 0.3}
        levels = Levels((("left", grammar.terminals[:1]), ("right", grammar.terminals[1:3])), own=own,
                        order=tuple(chooser.sample(grammar.names, len(grammar.names))))
        made = levels(table)
        yield made
        if made:
            cell = chooser.choice(list(made))
            yield {**made, cell: chooser.choice(table[cell])}


class TestAgainstAllLevels(unittest.TestCase):
    def test_small_grammars(self):
        chooser = random.Random(37)
        seen = {}
        for grammar in told_grammars() + all_grammars(every=6)[24:]:
            table = Table(grammar, chooser.choice(KINDS))
            if not table.conflicts or len(grammar.names) > 6 or len(grammar.terminals) > 4:
                continue
            for resolution in some_resolutions(table, chooser, 2):
                free = tuple(sorted(chooser.sample(grammar.names, chooser.choice((0, 0, 1)))))
                paper = levels_paper(table, resolution, free=free)
                told = has_levels(table, resolution, free)
                self.assertEqual([can_fit(table, resolution, free=free), paper[0] == "levels"], [told, told],
                                 (grammar.lines, table.kind, resolution, free, paper))
                self.assertIs(is_levels_paper(table, resolution, paper, free=free), True)
                seen[paper[0]] = seen.get(paper[0], 0) + 1
                self.check_paper(table, resolution, paper, free)
                self.check_needed(table, resolution)
        self.assertGreater(min(seen.get(word, 0) for word in ("levels", "never", "way", "order")), 3, seen)

    def check_paper(self, table, resolution, paper, free):
        if paper[0] == "levels":
            self.assertTrue(is_contained(resolution, paper[1](table)))
            self.assertLessEqual(set(paper[1].own), set(free))
        elif paper[0] == "way":
            walk = paper[1]
            self.assertIs(is_levels_paper(table, resolution, ("way", walk[1:] + walk[:1]), free=free), True)
            self.assertIs(is_levels_paper(table, resolution, ("way", walk * 2), free=free), True)
        elif paper[0] == "order":
            self.assertIs(is_levels_paper(table, resolution, ("order", paper[1] * 2), free=free), True)

    def check_needed(self, table, resolution):
        names = sorted(table.grammar.names)
        rows = [[row for row in itertools.combinations(names, many) if can_fit(table, resolution, free=row)]
                for many in range(3)]
        for most in range(3):
            wanted = next((tuple(row) for row in rows[:most + 1] if row), ())
            self.assertEqual(free_needed(table, resolution, most=most), wanted)
        self.assertEqual(free_needed(table, resolution), next((tuple(row) for row in rows if row), ()))


class TestEdges(unittest.TestCase):
    def test_free_productions(self):
        table = Table(SUMS)
        self.assertEqual([free_needed(table, ODD_RESOLUTION, most=most) for most in range(4)],
                         [(), (("times",),), (("times",),), (("times",),)])
        self.assertEqual(free_needed(table, {}), ((),))
        for free in ((), ("neg",), ("plus",), ("num",), ("neg", "plus")):
            self.assertIs(can_fit(table, ODD_RESOLUTION, free=free), False)
        for free in (("times",), ("neg", "times"), ("neg", "num", "plus", "times")):
            word, levels = levels_paper(table, ODD_RESOLUTION, free=free)
            self.assertEqual((word, set(levels.own) <= set(free)), ("levels", True))
            self.assertTrue(is_contained(ODD_RESOLUTION, levels(table)))

    def test_three_free_productions_are_needed(self):
        # Each sign stands between and ahead, and is reduced there and shifted here.
        grammar = Grammar.from_lines("n: E -> n", "ia: E -> E a E", "pa: E -> a E", "ib: E -> E b E", "pb: E -> b E",
                                     "ic: E -> E c E", "pc: E -> c E")
        table = Table(grammar)
        resolution = {}
        for sign in "abc":
            resolution[(table.walk(("E", sign, "E")), sign)] = f"i{sign}"
            resolution[(table.walk((sign, "E")), sign)] = "shift"
        self.assertEqual([free_needed(table, resolution, most=most) for most in (0, 1, 2)], [(), (), ()])
        rows = sorted(tuple(sorted(row)) for row in itertools.product(("ia", "pa"), ("ib", "pb"), ("ic", "pc")))
        self.assertEqual(free_needed(table, resolution, most=3), tuple(rows))
        self.assertEqual(free_needed(table, {cell: resolution[cell] for cell in list(resolution)[:4]}),
                         (("ia", "ib"), ("ia", "pb"), ("ib", "pa"), ("pa", "pb")))

    def test_never(self):
        table = Table(NEST)
        self.assertEqual(levels_paper(table, {(0, "c"): "none"}), ("never", ((0, "c"), "shift")))
        self.assertEqual(levels_paper(table, {(0, "c"): "shift"})[0], "levels")
        word, levels = levels_paper(table, {(0, "c"): "none"}, free=("none",))
        self.assertEqual((word, levels(table)[(0, "c")], list(levels.own)), ("levels", "none", ["none"]))
        self.assertEqual(free_needed(table, {(0, "c"): "none"}), (("none",),))
        self.assertEqual(free_needed(table, {(0, "c"): "none"}, most=0), ())
        self.assertIs(is_levels_paper(table, {(0, "c"): "none"}, ("never", ((0, "c"), "shift"))), True)
        self.assertIs(is_levels_paper(table, {(0, "c"): "none"}, ("never", ((0, "c"), "shift")), free=("none",)), False)
        self.assertIs(is_levels_paper(table, {(0, "c"): "shift"}, ("never", ((0, "c"), "none"))), False)
        # Nothing is preferred to "accept".
        table = Table(Grammar.from_lines("one: S -> A b", "two: S -> a", "up: A -> S"), "lr0")
        cell = (table.walk(("S",)), "$")
        self.assertEqual(table[cell], ("accept", "up"))
        self.assertEqual(levels_paper(table, {cell: "up"}, free=("up",)), ("never", (cell, "accept")))
        self.assertEqual([can_fit(table, {cell: "accept"}), free_needed(table, {cell: "up"}, most=3)], [True, ()])

    def test_order(self):
        table = Table(PAIRS)
        for chosen, loser in (("ca", "cb"), ("cb", "ca")):
            resolution = {(4, "a"): chosen, (4, "b"): chosen}
            word, levels = levels_paper(table, resolution)
            self.assertEqual((word, levels.order, is_contained(resolution, levels(table))), ("levels", (chosen, loser), True))
        resolution = {(4, "a"): "ca", (4, "b"): "cb"}
        word, walk = levels_paper(table, resolution)
        self.assertEqual((word, sorted(walk)), ("order", [((4, "a"), "cb"), ((4, "b"), "ca")]))
        for value, told in ((walk, True), (walk[::-1], True), (walk * 3, True), (walk[:1], False), ((), False),
                            (walk + walk[:1], False), (list(walk), False), (walk + (((0, "a"), "cb"),), False)):
            self.assertIs(is_levels_paper(table, resolution, ("order", value)), told, value)
            self.assertIs(is_levels_paper(table, resolution, ("way", value)), False, value)
        self.assertIs(can_fit(table, resolution, free=("ca", "cb")), False)
        self.assertEqual(free_needed(table, resolution, most=3), ())

    def test_equal_levels(self):
        table = Table(Grammar.from_lines("num: E -> n", "plus: E -> E + E", "less: E -> E - E"))
        states = {name: table.walk(("E", sign, "E")) for name, sign in (("plus", "+"), ("less", "-"))}
        left = {(state, sign): name for name, state in states.items() for sign in "+-"}
        right = {cell: "shift" for cell in left}
        self.assertEqual(levels_paper(table, left)[1].groups, (("left", ("+", "-")),))
        word, levels = levels_paper(table, right)
        self.assertTrue(is_contained(right, levels(table)))
        self.assertTrue(is_contained(right, Levels((("right", ("+", "-")),))(table)))
        both = {**left, (states["less"], "-"): "shift"}
        self.assertEqual(levels_paper(table, both)[0], "way")
        self.assertEqual(levels_paper(table, {})[0], "levels")
        self.assertEqual(levels_paper(Table(SUMS - "plus" - "times" - "neg"), {})[1], Levels())

    def test_points_without_an_arrow_of_the_first_sort_do_not_count(self):
        table = Table(SUMS)
        # "*" has the shift everywhere, so that it needs no level; without that rule this were a closed walk.
        resolution = {(8, "*"): "shift", (7, "*"): "shift", (7, "+"): "shift", (8, "+"): "plus"}
        word, levels = levels_paper(table, resolution)
        self.assertEqual((word, levels.groups), ("levels", (("left", ("+",)),)))
        walk = (((8, "*"), "plus"), ((7, "+"), "times"), ((8, "+"), "shift"))
        self.assertIs(is_levels_paper(table, resolution, ("way", walk)), False)
        self.assertIs(is_levels_paper(table, {**resolution, (7, "*"): "times"}, ("way", walk)), True)

    def test_sixteen_productions(self):
        signs = "+*/^=<>!?"
        grammar = Grammar.from_lines("num: E -> n", *[f"{name}: E -> E {sign} E" for name, sign in zip("abcdefghi", signs)])
        table = Table(grammar)
        levels = Levels(tuple((("left", "right")[at % 2], (sign,)) for at, sign in enumerate(signs)))
        word, made = levels_paper(table, levels(table))
        self.assertEqual((word, made.groups), ("levels", levels.groups))
        self.assertEqual(free_needed(table, levels(table), most=3), ((),))
        cell = (table.walk(("E", "+", "E")), "*")
        self.assertEqual(levels(table)[cell], "shift")
        turned = {**levels(table), cell: "a"}
        self.assertEqual([levels_paper(table, turned)[0], free_needed(table, turned, most=3)], ["way", (("a",),)])


class TestLevelsAndWishes(unittest.TestCase):
    def test_usual(self):
        for kind in KINDS:
            table = Table(SUMS, kind)
            resolution = least_resolution(table, Wishes(USUAL))
            word, levels = levels_paper(table, resolution)
            self.assertEqual((word, is_contained(resolution, levels(table))), ("levels", True))
            self.assertEqual(Parser(table, levels(table)).tree(("n", "+", "n", "*", "n"))[0], "plus")

    def test_all_levels_fit_their_own_resolutions(self):
        chooser = random.Random(41)
        for grammar in told_grammars() + all_grammars(every=10)[24:]:
            table = Table(grammar, chooser.choice(KINDS))
            own = {name: chooser.choice((None, 0)) for name in grammar.names if chooser.random() < 0.3}
            levels = Levels((("none", grammar.terminals[:2]), ("right", grammar.terminals[2:])), own=own)
            self.assertIs(is_levels_paper(table, levels(table), ("levels", levels), free=tuple(sorted(own))), True)
            self.assertIs(can_fit(table, levels(table), free=tuple(sorted(own))), True)

    def test_nothing_else_is_wanted(self):
        self.assertEqual(least_resolution(Table(NEST), Wishes(Filter())), None)


class TestJudge(unittest.TestCase):
    def test_levels(self):
        table = Table(SUMS)
        resolution = {(8, "+"): "plus", (8, "*"): "shift"}
        for levels, told in ((Levels((("left", ("+",)),)), True), (Levels((("left", ("+",)), ("none", ("*",)))), True),
                             (Levels((("none", ("+",)),)), False), (Levels((("left", ("*", "+")),)), False),
                             (Levels((("left", ("+",)), ("left", ("*",))), own={"num": 1}), False), (Levels(), False),
                             (Levels((("left", ("+",)),), own={"odd": 0}), False),
                             (Levels((("left", ("+",)), ("right", ("z",))), order=("odd", "num")), True)):
            self.assertIs(is_levels_paper(table, resolution, ("levels", levels)), told, str(levels))
        free = Levels((("left", ("+",)), ("left", ("*",))), own={"num": 1})
        self.assertIs(is_levels_paper(table, resolution, ("levels", free), free=("num",)), True)
        self.assertIs(is_levels_paper(table, resolution, ("levels", free), free=("neg",)), False)

    def test_values_near_to_papers(self):
        table = Table(SUMS)
        word, walk = levels_paper(table, ODD_RESOLUTION)
        self.assertEqual((word, len(walk)), ("way", 3))
        cells = [cell for cell, loser in walk]
        near = ODD + [("way",), ("way", walk, None), ["way", walk], ("way", list(walk)), ("Way", walk), (None, walk), ("order", walk),
                      ("never", walk), ("never", walk[0]), ("way", walk[0]), ("way", walk[:2]), ("way", walk[::-1]), ("way", ()),
                      ("way", walk[:2] + ((cells[2], "num"),)), ("way", walk[:2] + (cells[2],)), ("way", walk[:2] + (None,)),
                      ("way", walk[:2] + (((True, "+"), "times"),)), ("way", walk[:2] + ((list(cells[2]), "times"),)),
                      ("way", walk[:2] + ((cells[2], ["times"]),)), ("way", walk[:2] + ((cells[2], "shift"),)),
                      ("way", walk[:2] + (((7, "*"), "times"),)), ("levels", None), ("levels", walk), ("levels", ODD_RESOLUTION),
                      ("levels", ()), ("never", None), ("never", ((8, "+"), "shift")), (("way",), walk)]
        for value in near:
            self.assertIs(is_levels_paper(table, ODD_RESOLUTION, value), False, value)
        self.assertIs(is_levels_paper(table, ODD_RESOLUTION, ("way", walk), free=("times",)), False)

    def test_walks_of_one_sort_are_no_papers(self):
        table = Table(Grammar.from_lines("num: E -> n", "plus: E -> E + E", "less: E -> E - E"))
        states = {name: table.walk(("E", sign, "E")) for name, sign in (("plus", "+"), ("less", "-"))}
        left = {(state, sign): name for name, state in states.items() for sign in "+-"}
        walk = (((states["plus"], "-"), "shift"), ((states["less"], "+"), "shift"))
        self.assertIs(is_levels_paper(table, left, ("way", walk)), False)
        right = {cell: "shift" for cell in left}
        walk = (((states["plus"], "-"), "plus"), ((states["less"], "+"), "less"))
        self.assertIs(is_levels_paper(table, right, ("way", walk)), False)


class TestErrors(unittest.TestCase):
    def test_the_first_that_applies(self):
        table = Table(SUMS)
        calls = (lambda one, two, free: levels_paper(one, two, free=free), lambda one, two, free: can_fit(one, two, free=free),
                 lambda one, two, free: is_levels_paper(one, two, None, free=free))
        for wrong in ODD + [Parser(table, {}), Levels()]:
            for call in calls:
                with self.assertRaises(InvalidOperation):
                    call(wrong, None, None)
            with self.assertRaises(InvalidOperation):
                free_needed(wrong, None, most=None)
        for wrong in [value for value in ODD if value != {}] + [
                table.cells, {(8, "+"): "times"}, {(True, "n"): "shift"}, {(8, "n"): "shift"}, {(8, "+"): None}, Levels()]:
            for call in calls:
                with self.assertRaises(InvalidResolution):
                    call(table, wrong, None)
            with self.assertRaises(InvalidResolution):
                free_needed(table, wrong, most=None)
        for wrong in ODD + [("odd",), ("plus", "neg"), ("neg", "neg"), ["neg"], "neg", ("neg", None), ("E",), ("shift",), {"neg": 1}]:
            if wrong == ():
                continue
            for call in calls:
                with self.assertRaises(InvalidOperation):
                    call(table, {}, wrong)
        for wrong in [value for value in ODD if value not in (0, 1, 3) or isinstance(value, bool)] + [4, -1, "2", (2,)]:
            with self.assertRaises(InvalidNumber) as caught:
                free_needed(table, {}, most=wrong)
            self.assertIs(caught.exception.given, wrong)

    def test_nothing_is_changed(self):
        table = Table(SUMS)
        resolution = dict(ODD_RESOLUTION)
        levels_paper(table, resolution)
        free_needed(table, resolution, most=3)
        self.assertEqual(resolution, ODD_RESOLUTION)
        shuffled = {cell: ODD_RESOLUTION[cell] for cell in sorted(ODD_RESOLUTION, reverse=True)}
        self.assertEqual(levels_paper(table, shuffled), levels_paper(table, resolution))


if __name__ == "__main__":
    unittest.main()
