"""What the document says is true, and what is not, of demands, clashes and least resolutions [0.26] [0.31] [0.32]."""

import unittest

from chosentrees.base.grammars import Grammar
from chosentrees.base.trees import all_trees, count_trees, text_of
from chosentrees.run.parsers import Parser
from chosentrees.table.levels import Levels, common, is_contained
from chosentrees.table.tables import KINDS, Table
from chosentrees.wish.filters import Filter, Wishes
from chosentrees.wish.labels import clash, demands, is_built
from chosentrees.wish.papers import clashes, least_resolution, wishes_paper

import plain_trees
from samples import DANGLING, ELSE, FAR, NEAR, PAIRS, SUMS, USUAL
from small import all_grammars, some_texts


class TestTrueStatements(unittest.TestCase):
    def test_a_tree_is_built_exactly_if_its_demands_are_met(self):
        for parser in (Parser.by(ELSE, Levels()), Parser.by(SUMS, Levels((("left", ("+",)),))), Parser.by(PAIRS, Levels())):
            for text in some_texts(parser.grammar, 6, 400):
                for tree in all_trees(parser.grammar, text):
                    met = all(parser.resolution.get(cell) == action for cell, action in demands(parser.table, tree))
                    self.assertEqual([is_built(parser, tree), parser.tree(text) == tree], [met, met])

    def test_clashes_with_lookaheads_are_clashes_without(self):
        for grammar in all_grammars(every=6):
            trees = [tree for text in some_texts(grammar, 5, 40) for tree in list(all_trees(grammar, text))[:3]][:12]
            for one in trees:
                for other in trees[:4]:
                    if clash(Table(grammar, "lr1"), (one, other)) is not None:
                        self.assertIsNotNone(clash(Table(grammar), (one, other)))

    def test_least_resolutions_are_contained(self):
        table = Table(SUMS)
        less = least_resolution(table, Wishes(USUAL))
        more = least_resolution(table, Wishes(USUAL | Filter.children(("plus", 0, "times"), ("neg", 1, "neg"))))
        self.assertTrue(is_contained(more, less))
        self.assertLess(len(more), len(less))


class TestStatementsThatAreNotTrue(unittest.TestCase):
    def test_trees_clash_only_if_their_texts_are_equal(self):
        trees = [tree for text in some_texts(PAIRS, 3, 100) for tree in all_trees(PAIRS, text)]
        self.assertEqual(len({plain_trees.text(tree) for tree in trees}), 4)
        pairs = [(one, other) for one in trees for other in trees if clash(Table(PAIRS), (one, other))]
        self.assertGreater(len(pairs), 0)
        self.assertEqual([clash(Table(PAIRS, "lr1"), pair) for pair in pairs], [None] * len(pairs))
        self.assertEqual(clash(Table(ELSE), (FAR,)), (4, "else"))

    def test_wishes_of_lr_one_can_be_had_with_lalr(self):
        self.assertEqual([least_resolution(Table(PAIRS, kind), Wishes(Filter())) is None for kind in KINDS],
                         [True, True, True, False])
        self.assertEqual([wishes_paper(Table(ELSE, kind), Wishes(trees=(FAR,)))[0] for kind in KINDS],
                         ["clash", "clash", "clash", "resolution"])

    def test_with_an_action_at_each_conflict_no_text_is_refused(self):
        table = Table(ELSE)
        parser = Parser(table, {**Levels()(table), (4, "else"): "cond"})
        self.assertEqual(len(parser.resolution), len(table.cells))
        self.assertEqual((count_trees(ELSE, ("if", "x", "else", "x")), parser(("if", "x", "else", "x"))), (1, ("refused", 2)))

    def test_what_two_filters_both_allow_has_what_their_least_resolutions_have_in_common(self):
        grammar = Grammar.from_lines("s: S -> A A", "p: A -> x", "q: A -> y")
        table = Table(grammar)
        one, two = Filter.children(("s", 0, "p")), Filter.children(("s", 0, "q"), ("s", 1, "p"))
        rows = [least_resolution(table, Wishes(bars)) for bars in (one, two, one | two)]
        self.assertTrue(is_contained(rows[2], common(rows[0], rows[1])))
        self.assertNotEqual(rows[2], common(rows[0], rows[1]))

    def test_levels_that_contain_the_least_resolution_build_the_same_trees(self):
        wishes = Wishes(trees=(NEAR,))
        table = Table(ELSE)
        least = least_resolution(table, wishes)
        levels = Levels()(table)
        self.assertTrue(is_contained(least, levels))
        one, other = Parser(table, least), Parser(table, levels)
        self.assertEqual([one.tree(text_of(ELSE, NEAR)), other.tree(text_of(ELSE, NEAR))], [NEAR, NEAR])
        self.assertNotEqual([one.tree(text) for text in some_texts(ELSE, 5, 400)],
                            [other.tree(text) for text in some_texts(ELSE, 5, 400)])

    def test_a_filter_can_want_trees_of_which_one_clashes_with_itself(self):
        self.assertEqual([clashes(Table(ELSE), Wishes(DANGLING, told)) for told in ((), (NEAR,), (FAR,))],
                         [(), (), ((4, "else"),)])


if __name__ == "__main__":
    unittest.main()
