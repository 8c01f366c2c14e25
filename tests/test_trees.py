"""Trees, their texts, sizes and paths [0.9]."""

import unittest

from chosentrees.base import trees
from chosentrees.base.grammars import Grammar
from chosentrees.base.trees import is_tree, part_at, paths, size_of, text_of
from chosentrees.errors import InvalidGrammar, InvalidOperation, InvalidTree

import plain_trees
from samples import ELSE, FAR, NEAR, NEST, ODD, PAIRS, SUMS, chain_of, comb_of
from small import some_texts, told_grammars

NUM = ("num", ("n",))
TREE = ("plus", (NUM, "+", ("times", (NUM, "*", NUM))))
NEAR_TREES = [
    (), ("num",), ("num", ("n",), ()), ("num", "n"), ("num", ["n"]), ["num", ("n",)], ("num", ()), ("num", ("n", "n")),
    ("num", ("m",)), ("num", (NUM,)), ("neg", ("-",)), ("neg", (NUM, "-")), ("neg", ("-", "n")), ("neg", ("-", NUM, NUM)),
    ("nun", ("n",)), ("accept", (NUM,)), ("shift", ("n",)), ("plus", (NUM, "+", True)), ("plus", (NUM, True, NUM)),
    ("plus", (True, "+", NUM)), (True, ("n",)), ("num", True), ("num", (True,)), ("plus", (NUM, "+", ("num", ["n"]))),
    ("plus", [NUM, "+", NUM]), ("plus", (NUM, "+", ["num", ("n",)])), ("plus", (NUM, "*", NUM)), (("num",), ("n",)),
    (("num", "E", ("n",)), ("n",)), ("num", ("n",), None), ("", ("n",)), ("plus", (NUM, "+", ("act", ("x",)))),
    ("plus", ("+", NUM, NUM)), ("plus", (NUM, "+", NUM, "")), ("num", ("n", "")), (0, ("n",)), (None, ("n",)),
    ("plus", (NUM, ("+",), NUM)), ("plus", (NUM, "+", ("num", {"n": "n"}))), ("num", {"n": "n"}),
]


class TestIsTree(unittest.TestCase):
    def test_trees_of_the_start_and_of_others(self):
        for grammar, value in ((SUMS, TREE), (SUMS, NUM), (ELSE, NEAR), (ELSE, FAR), (NEST, ("none", ())),
                               (NEST, ("push", (("none", ()), ("base", ("c",)), "b"))), (PAIRS, ("cb", ("c",)))):
            self.assertIs(is_tree(grammar, value), True)

    def test_values_near_to_trees(self):
        for value in NEAR_TREES:
            self.assertIs(is_tree(SUMS, value), False, value)
            self.assertIs(is_tree(SUMS, ("neg", ("-", value))), False, value)
            self.assertIs(is_tree(SUMS, ("plus", (value, "+", NUM))), False, value)

    def test_other_values(self):
        for value in ODD:
            if value != ("act", ("x",)):
                self.assertIs(is_tree(ELSE, value), False)
        self.assertIs(is_tree(SUMS, NEAR), False)
        self.assertIs(is_tree(ELSE, TREE), False)

    def test_number_of_nodes(self):
        self.assertIs(is_tree(SUMS, chain_of(200)), True)
        self.assertIs(is_tree(SUMS, chain_of(201)), False)
        self.assertIs(is_tree(SUMS, comb_of(199)), True)
        self.assertIs(is_tree(SUMS, comb_of(201)), False)
        self.assertIs(is_tree(SUMS, comb_of(101)), True)

    def test_parts_that_are_shared_many_times(self):
        value = NUM
        for _ in range(40):
            value = ("plus", (value, "+", value))
        self.assertIs(is_tree(SUMS, value), False)

    def test_no_grammar(self):
        for wrong in [value for value in ODD if not isinstance(value, Grammar)]:
            for call in (lambda: is_tree(wrong, TREE), lambda: text_of(wrong, 1), lambda: size_of(wrong, 1),
                         lambda: part_at(wrong, 1, 1), lambda: list(paths(wrong, 1))):
                with self.assertRaises(InvalidGrammar):
                    call()

    def test_the_constant(self):
        self.assertEqual(trees.MAX_NODES, 200)


class TestWhatTreesHave(unittest.TestCase):
    def test_texts_sizes_and_paths(self):
        many = 0
        for grammar in told_grammars():
            for text in some_texts(grammar, 5, 130):
                for tree in plain_trees.trees(grammar, grammar.start, text):
                    many += 1
                    self.assertTrue(is_tree(grammar, tree))
                    self.assertEqual(text_of(grammar, tree), text)
                    self.assertEqual(size_of(grammar, tree), (plain_trees.node_count(tree), plain_trees.height(tree)))
                    self.assertEqual(list(paths(grammar, tree)), sorted(path for path, part in plain_trees.nodes(tree)))
                    for path, part in plain_trees.nodes(tree):
                        self.assertEqual(part_at(grammar, tree, path), part)
        self.assertGreater(many, 200)

    def test_long_and_empty_texts(self):
        self.assertEqual(text_of(SUMS, comb_of(199)), ("n",) + ("+", "n") * 99)
        self.assertEqual(size_of(SUMS, chain_of(200)), (200, 200))
        self.assertEqual(text_of(NEST, ("none", ())), ())
        self.assertEqual((size_of(NEST, ("none", ())), list(paths(NEST, ("none", ())))), ((1, 1), [()]))
        self.assertEqual(len(list(paths(SUMS, chain_of(200)))), 400)

    def test_no_tree(self):
        for wrong in NEAR_TREES + [chain_of(201), None, True, 1, "num", [], {}]:
            for call in (lambda: text_of(SUMS, wrong), lambda: size_of(SUMS, wrong), lambda: part_at(SUMS, wrong, None),
                         lambda: list(paths(SUMS, wrong))):
                with self.assertRaises(InvalidTree):
                    call()

    def test_no_path(self):
        for wrong in (None, True, 0, [], [0], "0", (3,), (-1,), (True,), (False,), (0, 1), (1, 0), (0, 0, 0), (2, 2, 0, 0),
                      (10 ** 59,), ("0",), (None,), ((0,),), {}, (2, 2, True)):
            with self.assertRaises(InvalidOperation):
                part_at(SUMS, TREE, wrong)
        self.assertEqual(part_at(SUMS, TREE, (2, 2, 0)), "n")

    def test_paths_raise_at_their_first_result(self):
        made = paths(True, True)
        with self.assertRaises(InvalidGrammar):
            next(made)
        made = paths(SUMS, NEAR)
        with self.assertRaises(InvalidTree):
            next(made)


if __name__ == "__main__":
    unittest.main()
