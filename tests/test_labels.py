"""Labels and demands of trees [0.18] to [0.20], and which trees parsers build [0.26]."""

import random
import unittest

from chosentrees.errors import InvalidOperation, InvalidTree
from chosentrees.base.trees import all_trees
from chosentrees.run.parsers import Parser
from chosentrees.table.levels import Levels, is_contained, is_resolution
from chosentrees.table.tables import KINDS, Table
from chosentrees.wish.labels import clash, demanded, demands, is_built, label, labels, least_of, missing

import plain_labels
import plain_parsers
import plain_trees
from samples import ELSE, FAR, NEAR, NEST, ODD, PAIRS, SUMS, chain_of, comb_of
from small import all_grammars, some_texts

ACT = ("act", ("x",))
NOT_TREES = ODD[:-1] + [("act", ["x"]), ("act", ("y",)), ("cond", ("if",)), ["act", ("x",)], ("act", ("x",), ()), ("num", ("n",)),
                        ("cond", (True, ACT)), (True, ("x",))]


def few_trees(grammar, most=5, limit=40, many=8):
    """Some trees of short texts."""
    found = [tree for text in some_texts(grammar, most, limit) for tree in all_trees(grammar, text)]
    return found[:many] + found[-many:]


class TestAgainstAPlainWalk(unittest.TestCase):
    def test_labels_and_demands(self):
        many = 0
        for grammar in all_grammars(every=12):
            trees = few_trees(grammar)
            for kind in KINDS:
                table = Table(grammar, kind)
                for tree in trees:
                    many += 1
                    self.compare(table, tree)
        self.assertGreater(many, 700)

    def compare(self, table, tree):
        paths = sorted(path for path, part in plain_trees.nodes(tree))
        self.assertEqual(labels(table, tree), tuple(plain_labels.label(table, tree, path) for path in paths))
        for path in paths:
            self.assertEqual(label(table, tree, path), plain_labels.label(table, tree, path))
            self.assertEqual(demanded(table, tree, path), plain_labels.demand(table, tree, path))
        made = demands(table, tree)
        self.assertEqual(made, plain_labels.demands(table, tree))
        # Each demanded action is one of the cell.
        for cell, action in made:
            self.assertIn(action, table[cell])

    def test_kinds_without_lookaheads_have_the_same_demands(self):
        for grammar in (SUMS, ELSE, NEST, PAIRS):
            for tree in few_trees(grammar):
                self.assertEqual(len({demands(Table(grammar, kind), tree) for kind in KINDS[:3]}), 1)

    def test_parts_with_empty_texts(self):
        tree = ("push", (("none", ()), ("base", ("c",)), "b"))
        table = Table(NEST)
        self.assertEqual(labels(table, tree), ((0, "S", "c", "$"), (0, "A", "", "c"), (2, "S", "c", "b"),
                                               (2, "c", "c", "b"), (4, "b", "b", "$")))
        self.assertEqual(demanded(table, tree, (0,)), ((0, "c"), "none"))
        self.assertEqual(demanded(table, tree, ()), ((5, "$"), "push"))


class TestBuiltTrees(unittest.TestCase):
    def test_against_the_runs_of_parsers(self):
        chooser = random.Random(3)
        seen = {True: 0, False: 0}
        for grammar in all_grammars(every=12):
            trees = few_trees(grammar)
            for kind in KINDS:
                table = Table(grammar, kind)
                for resolution in plain_parsers.resolutions(table, chooser, 4):
                    parser = Parser(table, resolution)
                    for tree in trees:
                        wanted = parser(plain_trees.text(tree)) == ("tree", tree)
                        seen[wanted] += 1
                        self.assertIs(is_built(parser, tree), wanted)
                        left = tuple(each for each in plain_labels.demands(table, tree)
                                     if resolution.get(each[0]) != each[1])
                        self.assertEqual(missing(parser, tree), left)
                        self.assertEqual(left == (), wanted)
        self.assertGreater(min(seen.values()), 1000)

    def test_trees_with_longer_texts(self):
        table = Table(SUMS)
        parser = Parser(table, least_of(table, (comb_of(199),)))
        self.assertIs(is_built(parser, comb_of(199)), True)
        self.assertIs(is_built(parser, chain_of(200)), False)
        self.assertEqual(len(missing(parser, chain_of(2))), len(demands(table, chain_of(2)))
                         - len([each for each in demands(table, chain_of(2)) if each in demands(table, comb_of(199))]))


class TestClashes(unittest.TestCase):
    def test_against_all_pairs_of_demands(self):
        for grammar in all_grammars(every=9):
            trees = few_trees(grammar, many=3)
            for kind in KINDS:
                table = Table(grammar, kind)
                for at in range(len(trees)):
                    self.compare(table, tuple(trees[:at + 1]))
                    self.compare(table, (trees[at],))

    def compare(self, table, trees):
        told = {each for tree in trees for each in plain_labels.demands(table, tree)}
        cells = sorted({cell for cell, action in told for place, other in told if cell == place and action != other})
        self.assertEqual(clash(table, trees), cells[0] if cells else None)
        if cells:
            with self.assertRaises(InvalidOperation):
                least_of(table, trees)
        else:
            made = least_of(table, trees)
            self.assertEqual((list(made), made), (sorted(made), dict(told)))
            self.assertTrue(is_resolution(table, made))
            self.assertTrue(all(is_built(Parser(table, made), tree) for tree in trees))

    def test_no_trees(self):
        self.assertEqual((clash(Table(ELSE), ()), least_of(Table(ELSE), ())), (None, {}))

    def test_twenty_trees(self):
        row = tuple(chain_of(many) for many in range(1, 21))
        self.assertIs(clash(Table(SUMS), row), None)
        self.assertTrue(is_contained(least_of(Table(SUMS), row[:1]), least_of(Table(SUMS), row)))
        for wrong in (row + row[:1], list(row), row[0], None, {}):
            for call in (clash, least_of):
                with self.assertRaises(InvalidTree):
                    call(Table(SUMS), wrong)
        same = (NEAR,) * 20
        self.assertEqual(least_of(Table(ELSE), same), least_of(Table(ELSE), (NEAR,)))
        for call in (clash, least_of):
            with self.assertRaises(InvalidTree):
                call(Table(ELSE), same + (NEAR,))

    def test_two_hundred_nodes(self):
        self.assertIs(clash(Table(SUMS), (chain_of(200),)), None)
        for call in (clash, least_of):
            for wrong in ((chain_of(201),), (comb_of(199), comb_of(201)), (chain_of(2), True)):
                with self.assertRaises(InvalidTree):
                    call(Table(SUMS), wrong)

    def test_a_tree_can_clash_with_itself(self):
        self.assertEqual([clash(Table(ELSE, kind), (FAR,)) for kind in KINDS],
                         [(4, "else"), (4, "else"), (4, "else"), None])
        self.assertEqual(clash(Table(ELSE), (NEAR, FAR)), (4, "else"))


class TestErrors(unittest.TestCase):
    def test_no_tables_and_no_parsers(self):
        for wrong in ODD + [Levels(), Parser(Table(ELSE), {})]:
            for call in (lambda: label(wrong, None, None), lambda: labels(wrong, None), lambda: demands(wrong, None),
                         lambda: demanded(wrong, None, None), lambda: clash(wrong, None), lambda: least_of(wrong, None)):
                with self.assertRaises(InvalidOperation):
                    call()
        for wrong in ODD + [Levels(), Table(ELSE)]:
            for call in (is_built, missing):
                with self.assertRaises(InvalidOperation):
                    call(wrong, None)

    def test_no_trees(self):
        table = Table(ELSE)
        for wrong in NOT_TREES:
            for call in (lambda: label(table, wrong, None), lambda: labels(table, wrong), lambda: demands(table, wrong),
                         lambda: demanded(table, wrong, None), lambda: clash(table, (wrong,)),
                         lambda: least_of(table, (FAR, wrong)), lambda: is_built(Parser(table, {}), wrong),
                         lambda: missing(Parser(table, {}), wrong)):
                with self.assertRaises(InvalidTree):
                    call()

    def test_trees_of_other_nonterminals(self):
        table = Table(PAIRS)
        for call in (lambda: labels(table, ("ca", ("c",))), lambda: demands(table, ("cb", ("c",))),
                     lambda: is_built(Parser(table, {}), ("ca", ("c",))), lambda: clash(table, (("ca", ("c",)),))):
            with self.assertRaises(InvalidTree):
                call()

    def test_no_paths(self):
        for wrong in (None, True, 0, [], [1], (2,), (True,), (-1,), (1, 4), (0, 0), "1", (1, True), {}, (10 ** 99,)):
            for call in (label, demanded):
                with self.assertRaises(InvalidOperation):
                    call(Table(ELSE), NEAR, wrong)

    def test_nothing_is_changed(self):
        made = least_of(Table(ELSE), (NEAR,))
        made.clear()
        self.assertEqual(len(least_of(Table(ELSE), (NEAR,))), 10)


if __name__ == "__main__":
    unittest.main()
