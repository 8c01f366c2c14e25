"""What filters allow, against plain walks down the edges [0.21]."""

import itertools
import random
import unittest

from chosentrees.base.grammars import Grammar
from chosentrees.base.trees import all_trees, is_tree
from chosentrees.wish.filters import Filter, Wishes

import plain_labels
import plain_trees
from samples import ELSE, FAR, NEAR, SUMS, USUAL
from small import all_grammars, some_texts
from small_filters import EDGES, all_bars, some_filters


class TestAgainstPlainWalks(unittest.TestCase):
    def test_all_small_trees(self):
        chooser = random.Random(11)
        seen = {True: 0, False: 0}
        for grammar in [EDGES, SUMS, ELSE] * 3 + all_grammars(every=6):
            texts = some_texts(grammar, 6, 60)
            for bars in some_filters(grammar, chooser, 5):
                self.assertTrue(bars.fits(grammar))
                for text in texts:
                    self.compare(grammar, bars, text, seen)
        self.assertGreater(min(seen.values()), 800, seen)

    def compare(self, grammar, bars, text, seen):
        wanted = []
        for tree in all_trees(grammar, text):
            broken = plain_labels.broken(bars.bars, tree)
            seen[broken == ()] += 1
            self.assertEqual(bars.broken(grammar, tree), broken)
            self.assertIs(bars.allows(grammar, tree), broken == ())
            self.assertIs(Wishes(bars).wants(grammar, tree), broken == ())
            if not broken:
                wanted.append(tree)
        self.assertEqual(list(bars.allowed(grammar, text)), wanted, (grammar.lines, bars.bars, text))

    def test_each_single_bar(self):
        for grammar in (EDGES, SUMS, ELSE):
            trees = [tree for text in some_texts(grammar, 6, 120) for tree in all_trees(grammar, text)]
            for bar in all_bars(grammar):
                for tree in trees[::3]:
                    self.assertEqual(Filter((bar,)).broken(grammar, tree), plain_labels.broken((bar,), tree))

    def test_trees_of_other_nonterminals(self):
        tree = ("wrap", ("a", ("one", (("leaf", ("c",)),)), "b"))
        self.assertEqual(Filter((("left", "wrap", 1, "leaf"),)).broken(EDGES, tree), (((), ("left", "wrap", 1, "leaf")),))
        self.assertEqual(Filter((("child", "wrap", 1, "leaf"),)).broken(EDGES, tree), ())

    def test_told_examples(self):
        self.assertEqual([Filter((("right", "both", 1, "cond"),)).allows(ELSE, tree) for tree in (NEAR, FAR)], [True, False])
        twice = ("neg", ("-", ("plus", (("plus", (("num", ("n",)), "+", ("num", ("n",)))), "+", ("num", ("n",))))))
        self.assertEqual(Filter((("left", "neg", 1, "plus"), ("child", "neg", 1, "plus"))).broken(SUMS, twice),
                         (((), ("child", "neg", 1, "plus")), ((), ("left", "neg", 1, "plus"))))


class TestAllowedOnly(unittest.TestCase):
    def test_few_of_very_many_trees(self):
        text = ("n",) + ("+", "n", "*", "n") * 14
        (tree,) = USUAL.allowed(SUMS, text)
        self.assertEqual((plain_trees.text(tree), plain_labels.broken(USUAL.bars, tree)), (text, ()))
        first = list(itertools.islice(Filter((("child", "plus", 0, "plus"),)).allowed(SUMS, text), 3))
        self.assertEqual(len(first), 3)
        for tree in first:
            self.assertEqual((plain_trees.text(tree), Filter((("child", "plus", 0, "plus"),)).allows(SUMS, tree)), (text, True))

    def test_none_allowed(self):
        self.assertEqual(list(Filter(tuple(("child", "neg", 1, name) for name in SUMS.names)).allowed(SUMS, ("-", "n"))), [])

    def test_trees_with_more_nodes(self):
        deep = Grammar.from_lines("a: S -> A S", "b: S -> x", "c: A -> B", "d: B -> C", "e: C -> D", "f: D -> y")
        (tree,) = Filter((("left", "a", 1, "f"),)).allowed(deep, ("y", "x"))
        self.assertTrue(is_tree(deep, tree))
        self.assertEqual(list(Filter((("left", "a", 1, "f"),)).allowed(deep, ("y",) * 2 + ("x",))), [])
        (tree,) = Filter((("child", "a", 0, "f"),)).allowed(deep, ("y",) * 59 + ("x",))
        self.assertEqual((plain_trees.node_count(tree), is_tree(deep, tree)), (59 * 5 + 1, False))

    def test_many_bars(self):
        names = ("a", "b", "c", "d", "e", "f", "g", "h")
        grammar = Grammar.from_lines("num: E -> n", *[f"{name}: E -> E {sign} E" for name, sign in zip(names, "+*/^=<>!")])
        bars = tuple(("left", name, 0, inner) for name in names for inner in names if inner < name)
        bars += tuple(("right", name, 2, inner) for name in names for inner in names if inner <= name)
        text = ("n",) + tuple(each for sign in "+*/^=<>!" for each in (sign, "n"))
        found = list(Filter(bars[:60]).allowed(grammar, text))
        wanted = [tree for tree in all_trees(grammar, text) if not plain_labels.broken(bars[:60], tree)]
        self.assertEqual(found, wanted)


if __name__ == "__main__":
    unittest.main()
