"""Papers of wishes over many small grammars [0.21] [0.22] [0.27]."""

import random
import unittest

from chosentrees.base.grammars import Grammar
from chosentrees.base.trees import all_trees
from chosentrees.errors import InvalidOperation, InvalidWishes, TooMany
from chosentrees.run.parsers import Parser
from chosentrees.table.levels import Levels, is_contained, is_resolution
from chosentrees.table.tables import KINDS, Table
from chosentrees.wish.filters import Filter, Wishes
from chosentrees.wish.labels import is_built, least_of
from chosentrees.wish.papers import clashes, is_wishes_paper, least_resolution, tree_demanding, wishes_paper
from chosentrees.wish.surveys import filter_demands, filter_survey, is_filter_survey

import plain_labels
import plain_surveys
import plain_trees
from samples import DANGLING, ELSE, FAR, NEAR, NEST, ODD, PAIRS, SUMS, USUAL, chain_of
from small import all_grammars, some_texts, told_grammars
from small_filters import EDGES, some_filters
from test_surveys import wide_filter


def short_trees(grammar):
    """Trees of short texts, of each text only some."""
    return [tree for text in some_texts(grammar, 5, 60) for tree in list(all_trees(grammar, text))[:8]]


def deep_grammar(last):
    """A grammar whose trees have 200 nodes with "C C" at the end, or one more with "C D"; a D can be an E, too."""
    return Grammar.from_lines(f"s: S -> A B C {last}", "a: A -> B B B B B", "b: B -> C C C C C", "c: C -> D D D D D",
                              "d: D -> x", "twin: C -> E D D D D", "e: E -> x")


def all_wishes(grammar, chooser):
    """Wishes with filters, with told trees, with both and with neither."""
    trees = short_trees(grammar)
    yield Wishes()
    for bars in some_filters(grammar, chooser, 2):
        yield Wishes(bars)
        yield Wishes(bars, tuple(chooser.sample(trees, min(2, len(trees)))))
    for many in (1, 1, 2, 3):
        yield Wishes(None, tuple(chooser.sample(trees, min(many, len(trees)))))


class TestManyWishes(unittest.TestCase):
    def test_small_grammars(self):
        chooser = random.Random(13)
        seen = {"resolution": 0, "clash": 0}
        for grammar in [EDGES] + told_grammars() + all_grammars(every=20)[24:]:
            trees = short_trees(grammar)
            for wishes in all_wishes(grammar, chooser):
                table = Table(grammar, chooser.choice(KINDS))
                paper = wishes_paper(table, wishes)
                seen[paper[0]] += 1
                self.assertIs(is_wishes_paper(table, wishes, paper), True, (grammar.lines, wishes.bars, wishes.trees))
                wanted = [tree for tree in trees if wishes.wants(grammar, tree)] + list(wishes.trees)
                if paper[0] == "resolution":
                    self.check_resolution(table, wishes, paper, wanted)
                else:
                    self.check_clash(table, wishes, paper)
                self.check_small(table, wishes, wanted)
        self.assertGreater(min(seen.values()), 50, seen)

    def check_resolution(self, table, wishes, paper, wanted):
        word, resolution, survey = paper
        self.assertTrue(is_resolution(table, resolution))
        parser = Parser(table, resolution)
        for tree in wanted:
            self.assertTrue(is_built(parser, tree))
            self.assertEqual(parser(plain_trees.text(tree)), ("tree", tree))
        self.assertEqual((clashes(table, wishes), list(resolution)), ((), sorted(resolution)))
        least = least_resolution(table, wishes)
        self.assertTrue(is_contained(least, resolution))
        self.assertEqual(list(least), sorted(least))
        if wishes.bars is None:
            self.assertIs(survey, None)
            self.assertEqual(least, least_of(table, wishes.trees))
        else:
            self.assertTrue(is_filter_survey(table, wishes.bars, survey))
        # With one more action at another cell it is a paper, too; with one less it is none.
        free = [cell for cell in table.cells if cell not in resolution]
        if free:
            more = {**resolution, free[0]: table[free[0]][0]}
            self.assertIs(is_wishes_paper(table, wishes, (word, more, survey)), True)
        for cell in list(least)[::4]:
            fewer = {each: action for each, action in resolution.items() if each != cell}
            self.assertIs(is_wishes_paper(table, wishes, (word, fewer, survey)), False)
        for cell in [cell for cell in least if len(table[cell]) > 1]:
            other = next(action for action in table[cell] if action != least[cell])
            self.assertIs(is_wishes_paper(table, wishes, (word, {**resolution, cell: other}, survey)), False)

    def check_clash(self, table, wishes, paper):
        word, cell, trees = paper
        self.assertIn(len(trees), (1, 2))
        told = [{action for place, action in plain_labels.demands(table, tree) if place == cell} for tree in trees]
        self.assertGreater(len(set().union(*told)), 1)
        self.assertTrue(all(told))
        for tree in trees:
            self.assertTrue(wishes.wants(table.grammar, tree))
            self.assertLessEqual(plain_trees.node_count(tree), 200)
        self.assertIn(cell, clashes(table, wishes))
        self.assertIs(least_resolution(table, wishes), None)
        self.assertIs(is_wishes_paper(table, wishes, (word, cell, trees[::-1])), True)

    def check_small(self, table, wishes, wanted):
        """What the small wanted trees demand is among what can be had, and each told tree demands it."""
        told = {each for tree in wanted for each in plain_labels.demands(table, tree)}
        cells = {cell for cell, action in told if len({other for place, other in told if place == cell}) > 1}
        self.assertLessEqual(cells, set(clashes(table, wishes)))
        found = {}
        for cell, actions in table.cells.items():
            for action in actions:
                tree = tree_demanding(table, wishes, cell, action)
                if tree is None:
                    self.assertNotIn((cell, action), told)
                else:
                    found.setdefault(cell, []).append(action)
                    self.assertTrue(wishes.wants(table.grammar, tree))
                    self.assertIn((cell, action), plain_labels.demands(table, tree))
                    if not wishes.trees:
                        sizes = [plain_trees.node_count(each) for each in wanted
                                 if (cell, action) in plain_labels.demands(table, each)]
                        self.assertLessEqual(plain_trees.node_count(tree), min(sizes, default=200))
        self.assertEqual(clashes(table, wishes), tuple(cell for cell in found if len(found[cell]) > 1))
        if not clashes(table, wishes):
            self.assertEqual(least_resolution(table, wishes), {cell: row[0] for cell, row in found.items()})
        if wishes.bars is not None and not wishes.trees:
            told = filter_demands(table, wishes.bars, filter_survey(table, wishes.bars))
            self.assertEqual(told, tuple((cell, action) for cell in found for action in sorted(found[cell])))


class TestMainStatements(unittest.TestCase):
    def test_all_trees_clash_where_there_are_conflicts(self):
        for grammar in all_grammars(every=4):
            for kind in ("lalr", "lr1"):
                table = Table(grammar, kind)
                self.assertEqual(bool(clashes(table, Wishes(Filter()))), bool(table.conflicts), grammar.lines)
            self.assertEqual(len({clashes(Table(grammar, kind), Wishes(Filter())) for kind in KINDS[:3]}), 1)

    def test_kinds(self):
        chooser = random.Random(17)
        for grammar in told_grammars():
            for bars in some_filters(grammar, chooser, 3):
                rows = [least_resolution(Table(grammar, kind), Wishes(bars)) for kind in KINDS]
                self.assertEqual(rows[0], rows[1])
                self.assertEqual(rows[1], rows[2])
                if clashes(Table(grammar, "lr1"), Wishes(bars)):
                    self.assertIs(rows[2], None)

    def test_more_bars(self):
        chooser = random.Random(19)
        many = 0
        for grammar in told_grammars():
            for bars in some_filters(grammar, chooser, 6):
                for kind in ("lalr", "lr1"):
                    less = least_resolution(Table(grammar, kind), Wishes(bars))
                    for more in some_filters(grammar, chooser, 2):
                        other = least_resolution(Table(grammar, kind), Wishes(Filter((bars | more).bars)))
                        if less is not None:
                            many += 1
                            self.assertTrue(is_contained(other, less))
        self.assertGreater(many, 100)

    def test_wishes_of_lr_one_but_not_of_lalr(self):
        self.assertEqual([wishes_paper(Table(PAIRS, kind), Wishes(Filter()))[0] for kind in KINDS],
                         ["clash", "clash", "clash", "resolution"])

    def test_what_usual_demands(self):
        for kind in KINDS[:3]:
            made = least_resolution(Table(SUMS, kind), Wishes(USUAL))
            self.assertEqual([made[cell] for cell in ((4, "+"), (4, "*"), (7, "+"), (7, "*"), (8, "*"), (8, "+"))],
                             ["neg", "neg", "times", "times", "shift", "plus"])
            self.assertEqual(made, {cell: made[cell] for cell in Levels(
                (("left", ("+",)), ("left", ("*",))), own={"neg": 1})(Table(SUMS, "lalr"))})


class TestSizes(unittest.TestCase):
    def test_two_hundred_nodes(self):
        table = Table(deep_grammar("C"))
        paper = wishes_paper(table, Wishes(Filter()))
        self.assertEqual(paper[0], "clash")
        self.assertEqual({plain_trees.node_count(tree) for tree in paper[2]}, {200})
        self.assertIs(is_wishes_paper(table, Wishes(Filter()), paper), True)
        cell = paper[1]
        for action in table[cell]:
            self.assertEqual(plain_trees.node_count(tree_demanding(table, Wishes(Filter()), cell, action)), 200)

    def test_more_than_two_hundred_nodes(self):
        table = Table(deep_grammar("C D"))
        cells = clashes(table, Wishes(Filter()))
        self.assertGreater(len(cells), 0)
        self.assertIs(least_resolution(table, Wishes(Filter())), None)
        with self.assertRaises(TooMany) as caught:
            wishes_paper(table, Wishes(Filter()))
        self.assertEqual(caught.exception.limit, 200)
        for cell, action in ((cells[0], table[cells[0]][0]), ((0, "x"), "shift"), ((table.walk(("S",)), "$"), "accept")):
            with self.assertRaises(TooMany) as caught:
                tree_demanding(table, Wishes(Filter()), cell, action)
            self.assertEqual(caught.exception.limit, 200)
        bars = Filter.children(("c", 0, "e"), *[(name, at, "twin") for name in "ab" for at in range(5)],
                               *[("s", at, "twin") for at in range(2, 4)])
        self.assertEqual(wishes_paper(table, Wishes(bars))[0], "resolution")

    def test_one_of_two_actions_only_in_greater_trees(self):
        # Only the one action is demanded by trees of at most 200 nodes: the other one needs a deep part.
        grammar = Grammar.from_lines("small: S -> x y", "s: S -> A B C C D", "a: A -> B B B B B", "b: B -> C C C C C",
                                     "c: C -> D D D D D", "d: D -> z", "big: S -> x D", "y: D -> y")
        table = Table(grammar)
        wishes = Wishes(Filter(tuple(("child", name, at, "y") for name in ("c",) for at in range(5))))
        self.assertEqual(tree_demanding(table, wishes, (0, "x"), "shift")[0], "small")
        with self.assertRaises(TooMany):
            tree_demanding(table, wishes, (0, "z"), "shift")
        self.assertIs(tree_demanding(table, Wishes(trees=(("small", ("x", "y")),)), (0, "z"), "shift"), None)

    def test_greater_trees_of_some_cells(self):
        # At most cells only great trees clash, but at one of them two small ones do.
        lines = ("s: S -> A B C C D", "a: A -> B B B B B", "b: B -> C C C C C", "c: C -> D D D D D", "d: D -> x",
                 "twin: C -> E D D D D", "e: E -> x", "two: S -> w D", "three: S -> w E")
        table = Table(Grammar.from_lines(*lines))
        paper = wishes_paper(table, Wishes(Filter()))
        self.assertEqual((paper[0], sorted(tree[0] for tree in paper[2])), ("clash", ["three", "two"]))
        self.assertGreater(len(clashes(table, Wishes(Filter()))), 1)

    def test_two_ways_to_a_least_tree(self):
        # The demand can be in the first part or in the second one; together with the rest the first one is less.
        grammar = Grammar.from_lines("s: S -> P Q", "p: P -> D D D D D", "deep: P -> D W D D E", "q: Q -> q",
                                     "wide: Q -> W D D D", "d: D -> d", "e: E -> D D", "w: W -> u v")
        for kind in KINDS[:3]:
            table = Table(grammar, kind)
            cell = (table.walk(("D", "u")), "v")
            tree = tree_demanding(table, Wishes(Filter()), cell, "shift")
            self.assertEqual((plain_trees.node_count(tree), tree[1][0][0]), (10, "deep"))

    def test_told_trees_of_two_hundred_nodes(self):
        table = Table(SUMS)
        paper = wishes_paper(table, Wishes(trees=(chain_of(200),)))
        self.assertEqual((paper[0], paper[2], is_built(Parser(table, paper[1]), chain_of(200))), ("resolution", None, True))

    def test_too_many_spots(self):
        grammar, bars = wide_filter(9)
        table = Table(grammar)
        for call in (lambda: wishes_paper(table, Wishes(bars)), lambda: clashes(table, Wishes(bars)),
                     lambda: least_resolution(table, Wishes(bars)),
                     lambda: tree_demanding(table, Wishes(bars), (0, "n"), "shift")):
            with self.assertRaises(TooMany) as caught:
                call()
            self.assertEqual(caught.exception.limit, 20000)
        with self.assertRaises(InvalidOperation):
            tree_demanding(table, Wishes(bars), (0, "n"), "num")
        self.assertIs(is_wishes_paper(table, Wishes(bars), ("resolution", {}, ({}, ()))), False)


class TestJudge(unittest.TestCase):
    def test_values_near_to_papers_with_resolutions(self):
        table, wishes = Table(ELSE), Wishes(DANGLING)
        word, resolution, survey = wishes_paper(table, wishes)
        more = plain_surveys.closure(plain_surveys.ByFilter(table, DANGLING.bars), {(4, "S", "if", (), (), ()): ("else",)})
        self.assertIs(is_wishes_paper(table, wishes, (word, resolution, more)), True)
        for value in ODD + [(word, resolution), (word, resolution, survey, None), [word, resolution, survey],
                            ("Resolution", resolution, survey), (True, resolution, survey), (word, survey, resolution),
                            (word, resolution, None), (word, None, survey), (word, {}, survey), (word, resolution, ({}, ())),
                            (word, resolution, (survey[0], ())), (word, resolution, list(survey)), ("clash", resolution, survey),
                            (word, tuple(resolution.items()), survey), (word, resolution, filter_survey(table, Filter())),
                            (word, {**resolution, (0, "x"): None}, survey), (word, {**resolution, (0, "else"): "shift"}, survey),
                            (None, None, None), ((word,), resolution, survey)]:
            self.assertIs(is_wishes_paper(table, wishes, value), False, value)
        turned = {((True,) + cell[1:] if cell[0] == 1 else cell): action for cell, action in resolution.items()}
        self.assertEqual(turned, resolution)
        self.assertIs(is_wishes_paper(table, wishes, (word, turned, survey)), False)

    def test_papers_without_filters(self):
        table = Table(ELSE)
        paper = wishes_paper(table, Wishes(trees=(NEAR,)))
        self.assertIs(is_wishes_paper(table, Wishes(trees=(NEAR,)), paper), True)
        self.assertIs(is_wishes_paper(table, Wishes(trees=(NEAR,)), ("resolution", Levels()(table), None)), True)
        self.assertIs(is_wishes_paper(table, Wishes(trees=(NEAR,)), paper[:2] + (filter_survey(table, Filter()),)), False)
        self.assertIs(is_wishes_paper(table, Wishes(trees=(NEAR,)), paper[:2] + (False,)), False)
        self.assertEqual(wishes_paper(table, Wishes()), ("resolution", {}, None))
        self.assertIs(is_wishes_paper(table, Wishes(), ("resolution", {(4, "else"): "cond"}, None)), True)

    def test_values_near_to_papers_with_clashes(self):
        table, wishes = Table(ELSE), Wishes(Filter())
        cell = (4, "else")
        for trees in ((NEAR, FAR), (FAR, NEAR), (FAR,), (FAR, FAR)):
            self.assertIs(is_wishes_paper(table, wishes, ("clash", cell, trees)), True)
        act = ("act", ("x",))
        for value in (("clash", cell, (NEAR,)), ("clash", cell, (NEAR, NEAR)), ("clash", cell, ()), ("clash", cell, (FAR,) * 3),
                      ("clash", cell, [FAR]), ("clash", cell, FAR), ("clash", (2, "else"), (FAR,)), ("clash", [4, "else"], (FAR,)),
                      ("clash", (True, "x"), (FAR,)), ("clash", None, (FAR,)), ("clash", (4, "else", 0), (FAR,)),
                      ("clash", cell, (act, FAR)), ("clash", cell, (FAR, act)), ("clash", cell, (FAR, None)),
                      ("clash", cell, (("num", ("n",)),)), ("Clash", cell, (FAR,)), ("clash", cell, (FAR,), None),
                      ("clash", (4, "S"), (FAR,)), ("clash", (99, "else"), (FAR,)), ["clash", cell, (FAR,)],
                      ("resolution", cell, (FAR,)), ("clash", cell, {FAR: True})):
            self.assertIs(is_wishes_paper(table, wishes, value), False, value)
        self.assertIs(is_wishes_paper(table, Wishes(DANGLING), ("clash", cell, (FAR,))), False)
        self.assertIs(is_wishes_paper(table, Wishes(DANGLING, (FAR,)), ("clash", cell, (FAR,))), True)
        self.assertIs(is_wishes_paper(table, Wishes(trees=(NEAR,)), ("clash", cell, (NEAR, FAR))), False)
        self.assertIs(is_wishes_paper(Table(ELSE, "lr1"), wishes, ("clash", (7, "else"), (NEAR, FAR))), True)
        self.assertIs(is_wishes_paper(Table(ELSE, "lr1"), wishes, ("clash", (7, "else"), (FAR,))), False)
        word, cell, trees = wishes_paper(Table(NEST), Wishes(Filter()))
        self.assertEqual((word, cell), ("clash", (0, "c")))
        self.assertIs(is_wishes_paper(Table(NEST), Wishes(Filter()), (word, (False, "c"), trees)), False)


class TestErrors(unittest.TestCase):
    def test_tables_and_wishes(self):
        table = Table(ELSE)
        calls = (wishes_paper, clashes, least_resolution, lambda one, two: is_wishes_paper(one, two, None),
                 lambda one, two: tree_demanding(one, two, None, None))
        for wrong in ODD + [Levels(), Filter(), Wishes(), Parser(table, {})]:
            for call in calls:
                with self.assertRaises(InvalidOperation):
                    call(wrong, None)
        for wrong in ODD + [Filter(), USUAL, (NEAR,), None, Wishes(USUAL), Wishes(trees=(chain_of(1),)),
                            Wishes(DANGLING, (NEAR, ("act", ())))]:
            for call in calls:
                with self.assertRaises(InvalidWishes):
                    call(table, wrong)

    def test_no_cell_with_this_action(self):
        table = Table(ELSE)
        for cell, action in (((4, "else"), "both"), ((4, "else"), "accept"), ((4, "else"), None), ((4, "else"), True),
                             ((4, "if"), "cond"), ((7, "$"), "cond"), ((True, "x"), "shift"), (None, "shift"),
                             ([0, "x"], "shift"), ((0, "x"), ["shift"]), ((0, "x"), ("shift",)), ((0, "S"), "shift"),
                             ((0,), "shift"), ((0, "x"), 10 ** 99), ({}, "shift"), ((0, ("x",)), "shift")):
            with self.assertRaises(InvalidOperation):
                tree_demanding(table, Wishes(Filter()), cell, action)

    def test_accept_is_demanded_by_each_tree(self):
        cell = (3, "$")
        self.assertEqual(tree_demanding(Table(ELSE), Wishes(Filter()), cell, "accept"), ("act", ("x",)))
        self.assertEqual(tree_demanding(Table(ELSE), Wishes(trees=(FAR,)), cell, "accept"), FAR)
        self.assertIs(tree_demanding(Table(ELSE), Wishes(), cell, "accept"), None)

    def test_nothing_is_changed(self):
        table, wishes = Table(ELSE), Wishes(DANGLING)
        paper = wishes_paper(table, wishes)
        resolution = dict(paper[1])
        self.assertIs(is_wishes_paper(table, wishes, paper), True)
        self.assertEqual(paper[1], resolution)
        paper[1].clear()
        paper[2][0].clear()
        least_resolution(table, wishes).clear()
        self.assertEqual((wishes_paper(table, wishes)[1], least_resolution(table, wishes)), (resolution, resolution))


if __name__ == "__main__":
    unittest.main()
