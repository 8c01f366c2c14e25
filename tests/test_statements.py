"""What the document says is true, and what is not, of demands, clashes and least resolutions [0.26] [0.31] [0.32]."""

import itertools
import unittest

from chosentrees.base.grammars import Grammar
from chosentrees.base.trees import all_trees, count_trees, size_of, text_of
from chosentrees.compare.compared import are_alike, inclusion_paper, least_outside, least_parting
from chosentrees.compare.met import lost_texts
from chosentrees.run.parsers import Parser
from chosentrees.table.levels import Levels, common, is_contained
from chosentrees.table.tables import KINDS, Table
from chosentrees.wish.exact import is_exact, missed_paper
from chosentrees.wish.filters import Filter, Wishes
from chosentrees.wish.labels import clash, demands, is_built, least_of
from chosentrees.wish.papers import clashes, least_resolution, wishes_paper
from chosentrees.wish.ranking import can_fit

import plain_trees
from samples import DANGLING, ELSE, FAR, NEAR, PAIRS, SUMS, USUAL
from small import all_grammars, some_texts


def plain_nodes(tree):
    """The pairs of a path and a node."""
    return [(path, part) for path, part in plain_trees.nodes(tree) if not isinstance(part, str)]


class TestTrueStatements(unittest.TestCase):
    def test_a_tree_is_built_exactly_if_its_demands_are_met(self):
        for parser in (Parser.by(ELSE, Levels()), Parser.by(SUMS, Levels((("left", ("+",)),))), Parser.by(PAIRS, Levels())):
            for text in some_texts(parser.grammar, 6, 400):
                for tree in all_trees(parser.grammar, text):
                    met = all(parser.resolution.get(cell) == action for cell, action in demands(parser.table, tree))
                    self.assertEqual([is_built(parser, tree), parser.tree(text) == tree], [met, met])

    def test_clashes_with_lookaheads_are_clashes_without(self):
        for grammar in all_grammars(every=6):
            trees = [tree for text in some_texts(grammar, 5, 40) for tree in list(all_trees(grammar, text))[:3]][:12]
            for one in trees:
                for other in trees[:4]:
                    if clash(Table(grammar, "lr1"), (one, other)) is not None:
                        self.assertIsNotNone(clash(Table(grammar), (one, other)))

    def test_least_resolutions_are_contained(self):
        table = Table(SUMS)
        less = least_resolution(table, Wishes(USUAL))
        more = least_resolution(table, Wishes(USUAL | Filter.children(("plus", 0, "times"), ("neg", 1, "neg"))))
        self.assertTrue(is_contained(more, less))
        self.assertLess(len(more), len(less))


class TestStatementsThatAreNotTrue(unittest.TestCase):
    def test_trees_clash_only_if_their_texts_are_equal(self):
        trees = [tree for text in some_texts(PAIRS, 3, 100) for tree in all_trees(PAIRS, text)]
        self.assertEqual(len({plain_trees.text(tree) for tree in trees}), 4)
        pairs = [(one, other) for one in trees for other in trees if clash(Table(PAIRS), (one, other))]
        self.assertGreater(len(pairs), 0)
        self.assertEqual([clash(Table(PAIRS, "lr1"), pair) for pair in pairs], [None] * len(pairs))
        self.assertEqual(clash(Table(ELSE), (FAR,)), (4, "else"))

    def test_wishes_of_lr_one_can_be_had_with_lalr(self):
        self.assertEqual([least_resolution(Table(PAIRS, kind), Wishes(Filter())) is None for kind in KINDS],
                         [True, True, True, False])
        self.assertEqual([wishes_paper(Table(ELSE, kind), Wishes(trees=(FAR,)))[0] for kind in KINDS],
                         ["clash", "clash", "clash", "resolution"])

    def test_with_an_action_at_each_conflict_no_text_is_refused(self):
        table = Table(ELSE)
        parser = Parser(table, {**Levels()(table), (4, "else"): "cond"})
        self.assertEqual(len(parser.resolution), len(table.cells))
        self.assertEqual((count_trees(ELSE, ("if", "x", "else", "x")), parser(("if", "x", "else", "x"))), (1, ("refused", 2)))

    def test_what_two_filters_both_allow_has_what_their_least_resolutions_have_in_common(self):
        grammar = Grammar.from_lines("s: S -> A A", "p: A -> x", "q: A -> y")
        table = Table(grammar)
        one, two = Filter.children(("s", 0, "p")), Filter.children(("s", 0, "q"), ("s", 1, "p"))
        rows = [least_resolution(table, Wishes(bars)) for bars in (one, two, one | two)]
        self.assertTrue(is_contained(rows[2], common(rows[0], rows[1])))
        self.assertNotEqual(rows[2], common(rows[0], rows[1]))

    def test_levels_that_contain_the_least_resolution_build_the_same_trees(self):
        wishes = Wishes(trees=(NEAR,))
        table = Table(ELSE)
        least = least_resolution(table, wishes)
        levels = Levels()(table)
        self.assertTrue(is_contained(least, levels))
        one, other = Parser(table, least), Parser(table, levels)
        self.assertEqual([one.tree(text_of(ELSE, NEAR)), other.tree(text_of(ELSE, NEAR))], [NEAR, NEAR])
        self.assertNotEqual([one.tree(text) for text in some_texts(ELSE, 5, 400)],
                            [other.tree(text) for text in some_texts(ELSE, 5, 400)])

    def test_a_filter_can_want_trees_of_which_one_clashes_with_itself(self):
        self.assertEqual([clashes(Table(ELSE), Wishes(DANGLING, told)) for told in ((), (NEAR,), (FAR,))],
                         [(), (), ((4, "else"),)])

    def test_if_two_of_three_trees_can_be_had_by_levels_all_three_can(self):
        grammar = Grammar.from_lines("num: E -> n", "a: E -> E a E", "b: E -> E b E", "c: E -> E c E")
        table = Table(grammar)
        num = ("num", ("n",))
        # Each sign binds closer than another one, round in a ring, on the right of it or, the last one, on the left.
        one = ("a", (num, "a", ("b", (num, "b", num))))
        two = ("b", (("b", (num, "b", num)), "b", ("c", (num, "c", num))))
        trees = (one, two, ("c", (("a", (num, "a", num)), "c", num)))
        for pair in itertools.combinations(trees, 2):
            self.assertIs(can_fit(table, least_of(table, pair)), True)
        resolution = least_of(table, trees)
        self.assertTrue(all(is_built(Parser(table, resolution), tree) for tree in trees))
        self.assertIs(can_fit(table, resolution), False)

    def test_levels_mean_the_same_as_bars_for_children(self):
        # The sign ahead has the lowest level: a sum below it is fine, but then nothing may come behind.
        levels = Levels((("right", ("-",)), ("left", ("+",)), ("left", ("*",))))
        parser = Parser.by(SUMS, levels)
        trees = [parser.tree(text) for text in some_texts(SUMS, 6, 6000)]
        broken = {(name, at, part[0]) for tree in trees if tree for where, (name, parts) in plain_nodes(tree)
                  for at, part in enumerate(parts) if not isinstance(part, str)}
        places = [("neg", 1)] + [(name, at) for name in ("plus", "times") for at in (0, 2)]
        # All bars that no tree that is built breaks; other filters for children forbid a tree that is built, or allow more.
        bars = Filter.children(*[(name, at, inner) for name, at in places for inner in SUMS.names
                                 if (name, at, inner) not in broken])
        self.assertEqual(missed_paper(parser, bars)[0], "missed")
        self.assertIs(is_exact(parser, bars), False)

    def test_parsers_that_are_alike_for_texts_of_five_terminals_are_alike(self):
        grammar = Grammar.from_lines("one: S -> A T", "two: S -> B T c", "p: A -> x", "q: B -> x", "deep: T -> a a a a a")
        table = Table(grammar)
        rows = [Parser(table, {**Levels()(table), (table.walk(("x",)), "a"): name}) for name in ("p", "q")]
        texts = [text for many in range(6) for text in itertools.product(grammar.terminals, repeat=many)]
        self.assertEqual([rows[0].tree(text) for text in texts], [rows[1].tree(text) for text in texts])
        self.assertIs(are_alike(*rows), False)
        self.assertEqual(least_parting(*rows), ("x",) + ("a",) * 5)

    def test_a_production_with_a_new_terminal_changes_no_old_tree(self):
        grammar = Grammar.from_lines("one: S -> A b", "letter: A -> a")
        more = grammar + ("two", "S", ("a", "b", "x"))
        self.assertEqual(set(more.terminals) - set(grammar.terminals), {"x"})
        self.assertEqual(least_outside(Parser.by(grammar, Levels()), Parser.by(more, Levels())), ("a", "b"))

    def test_two_productions_that_change_nothing_one_by_one_change_nothing_together(self):
        grammar = Grammar.from_lines("one: S -> A b", "two: S -> y B", "letter: A -> a", "end: B -> z")
        added = (("three", "S", ("B", "c")), ("four", "B", ("a", "b")))
        old = Parser.by(grammar, Levels())
        for production in added:
            self.assertEqual(inclusion_paper(old, Parser.by(grammar + production, Levels()))[0], "inside")
        both = Parser.by(grammar + added[0] + added[1], Levels())
        self.assertEqual(least_outside(old, both), ("a", "b"))

    def test_wanted_trees_that_do_not_clash_can_be_had_by_levels(self):
        lalr = Table(PAIRS)
        trees = (("one", ("a", ("ca", ("c",)), "a")), ("three", ("a", ("cb", ("c",)), "b")))
        resolution = least_of(lalr, trees)
        self.assertEqual((resolution[(4, "a")], resolution[(4, "b")]), ("ca", "cb"))
        self.assertEqual([can_fit(lalr, resolution), can_fit(lalr, resolution, free=("ca", "cb"))], [False, False])

    def test_the_least_text_on_which_parsers_differ_has_the_least_tree(self):
        grammar = Grammar.from_lines("deep: S -> A", "a: A -> B", "b: B -> x", "flat: S -> y y")
        table = Table(grammar)
        one, other = Parser(table, Levels()(table)), Parser(table, {})
        text = least_parting(one, other)
        self.assertEqual((text, size_of(grammar, one.tree(text))[0]), (("x",), 3))
        self.assertEqual(size_of(grammar, one.tree(("y", "y")))[0], 1)

    def test_lost_texts_where_each_conflict_has_an_action(self):
        table = Table(ELSE)
        parser = Parser(table, {**Levels()(table), (4, "else"): "cond"})
        self.assertEqual(next(lost_texts(parser, most=4)), ("if", "x", "else", "x"))


class TestParsersThatAreTheLeast(unittest.TestCase):
    def test_what_the_least_resolution_builds_is_built_by_all_others(self):
        for bars in (USUAL, Filter(USUAL.bars + (("child", "plus", 0, "neg"),))):
            for kind in KINDS:
                table = Table(SUMS, kind)
                least = least_resolution(table, Wishes(bars))
                free = [cell for cell in table.cells if cell not in least]
                for more in ({}, {cell: table[cell][0] for cell in free}, {cell: table[cell][-1] for cell in free}):
                    paper = inclusion_paper(Parser(table, least), Parser(table, {**least, **more}))
                    self.assertEqual(paper[0], "inside")

    def test_kinds_without_lookaheads_build_the_same_for_the_same_wishes(self):
        for grammar, bars in ((SUMS, USUAL), (ELSE, DANGLING)):
            parsers = [Parser(Table(grammar, kind), least_resolution(Table(grammar, kind), Wishes(bars))) for kind in KINDS]
            self.assertEqual([are_alike(parsers[0], other) for other in parsers], [True] * 4)


if __name__ == "__main__":
    unittest.main()
