"""All trees of a text, and their number [0.10]."""

import itertools
import unittest
from math import comb

from chosentrees.base.grammars import Grammar
from chosentrees.base.trees import all_trees, count_trees, is_tree, text_of
from chosentrees.errors import InvalidGrammar, InvalidText

import plain_trees
from samples import ELSE, NEST, ODD, SUMS
from small import all_grammars, some_texts

LONG = ("n",) + ("+", "n") * 12 + ("-",)


def catalan(many):
    """The number of the trees with so many inner nodes of two parts."""
    found = 1
    for at in range(many):
        found = found * 2 * (2 * at + 1) // (at + 2)
    return found


class TestOrderAndNumber(unittest.TestCase):
    def test_small_grammars(self):
        many = 0
        for grammar in all_grammars(every=3):
            for text in some_texts(grammar, 6, 100):
                wanted = plain_trees.trees(grammar, grammar.start, text)
                many += len(wanted)
                self.assertEqual(list(all_trees(grammar, text)), wanted, (grammar.lines, text))
                self.assertEqual(count_trees(grammar, text), len(wanted))
        self.assertGreater(many, 1000)

    def test_longer_texts(self):
        for grammar, text in ((SUMS, "n + n * - n + n"), (ELSE, "if if if x else x else x"), (NEST, "c b b b"),
                              (Grammar.from_lines("a: S -> S S S", "b: S -> S S", "c: S -> x"), "x x x x x x"),
                              (Grammar.from_lines("a: S -> A A A A A", "b: A -> x", "c: A ->", "d: A -> x x"), "x x x x")):
            row = tuple(text.split(" "))
            wanted = plain_trees.trees(grammar, grammar.start, row)
            self.assertGreater(len(wanted), 0)
            self.assertEqual(list(all_trees(grammar, row)), wanted)

    def test_very_many_trees(self):
        for many in (20, 29):
            self.assertEqual(count_trees(SUMS, ("n",) + ("+", "n") * many), catalan(many))
        twice = Grammar.from_lines("cat: S -> S S", "one: S -> a")
        self.assertEqual(count_trees(twice, ("a",) * 60), catalan(59))
        self.assertEqual(count_trees(twice, ()), 0)

    def test_they_come_one_by_one(self):
        text = ("n",) + ("+", "n", "*", "n") * 6 + ("*",)
        self.assertEqual(len(text), 26)
        self.assertEqual(list(itertools.islice(all_trees(SUMS, text), 5)), [])
        text = ("-", "n") + ("+", "n", "*", "n") * 6
        self.assertEqual(len(text), 26)
        first = list(itertools.islice(all_trees(SUMS, text), 5))
        self.assertEqual([text_of(SUMS, tree) for tree in first], [text] * 5)
        self.assertTrue(all(is_tree(SUMS, tree) for tree in first))
        self.assertEqual([tree[0] for tree in first], ["plus"] * 5)
        # The least number of terminals of the first part is two, and so on down the right edges.
        self.assertEqual([len(plain_trees.text(part)) for part in first[0][1] if part != "+"], [2, 23])
        self.assertEqual(len({repr(tree) for tree in first}), 5)
        self.assertGreater(count_trees(SUMS, text), 10 ** 5)

    def test_texts_of_sixty_terminals(self):
        deep = Grammar.from_lines("a: S -> A S", "b: S -> x", "c: A -> B", "d: B -> C", "e: C -> D", "f: D -> E",
                                  "g: E -> y")
        (tree,) = all_trees(deep, ("y",) * 59 + ("x",))
        self.assertEqual(plain_trees.node_count(tree), 59 * 6 + 1)
        self.assertFalse(is_tree(deep, tree))
        chain = Grammar.from_lines("a: S -> A", "b: A -> B", "c: B -> C", "d: C -> D", "e: D -> E", "f: E -> y S",
                                   "g: E -> x")
        (tree,) = all_trees(chain, ("y",) * 59 + ("x",))
        depth = 0
        while not isinstance(tree, str):
            tree = tree[1][-1]
            depth += 1
        self.assertEqual(depth, 360)
        self.assertEqual(count_trees(SUMS, ("-",) * 59 + ("n",)), 1)

    def test_parts_without_texts(self):
        grammar = Grammar.from_lines("a: S -> A A", "b: A -> B B", "c: A -> a", "d: B ->", "e: B -> b")
        for text in ((), ("a",), ("b",), ("b", "b"), ("b", "b", "b"), ("a", "b")):
            self.assertEqual(list(all_trees(grammar, text)), plain_trees.trees(grammar, "S", text))


def length_counts(grammar, most):
    """A dict from nonterminals to the numbers of trees by lengths, for grammars with one terminal and no empty texts."""
    counts = {symbol: [0] * (most + 1) for symbol in grammar.nonterminals}
    for many in range(1, most + 1):
        for symbol in grammar.nonterminals:
            counts[symbol][many] = sum(row_count(grammar[name][2], many, counts) for name in grammar.of(symbol))
    return counts


def row_count(body, many, counts, known=None):
    """The number of ways to take trees with so many terminals together for a row of symbols."""
    if not body:
        return int(many == 0)
    known = {} if known is None else known
    if (len(body), many) not in known:
        known[(len(body), many)] = sum(
            (counts[body[0]][first] if body[0].isupper() else int(first == 1)) * row_count(body[1:], many - first, counts, known)
            for first in range(1, many - len(body) + 2))
    return known[(len(body), many)]


class TestLongTexts(unittest.TestCase):
    """Long texts with very many trees, of which only the number or the first ones are asked for."""

    def setUp(self):
        self.grammar = Grammar.from_lines("one: S -> x", "two: S -> S S", "three: S -> S S S", "five: S -> S S S S S")

    def test_numbers(self):
        counts = length_counts(self.grammar, 60)["S"]
        for many in (0, 1, 2, 3, 5, 10, 20, 40, 59, 60):
            self.assertEqual(count_trees(self.grammar, ("x",) * many), counts[many])
        wide = Grammar.from_lines("a: S -> x S x", "b: S -> S x S", "c: S -> x x", "d: S -> x")
        self.assertEqual([count_trees(wide, ("x",) * many) for many in range(30)], length_counts(wide, 29)["S"])

    def test_numbers_with_parts_without_terminals(self):
        plain = Grammar.from_lines("one: S -> A A A A A", "two: A -> a", "three: A -> a A")
        empty = Grammar.from_lines("one: S -> A A A A A", "two: A ->", "three: A -> a A")
        # The rows of five numbers with a sum, all of them at least 1, or at least 0.
        for many in (5, 9, 30, 60):
            self.assertEqual(count_trees(plain, ("a",) * many), comb(many - 1, 4))
            self.assertEqual(count_trees(empty, ("a",) * many), comb(many + 4, 4))
        twice = Grammar.from_lines("s: S -> N N T", "n: N ->", "o: N -> O", "p: O ->", "t: T -> N t", "u: T -> t T")
        self.assertEqual([count_trees(twice, ("t",) * many) for many in (0, 1, 2, 60)], [0, 8, 8, 8])
        for text in (("t",), ("t", "t"), ("t", "t", "t")):
            self.assertEqual(list(all_trees(twice, text)), plain_trees.trees(twice, "S", text))

    def test_the_whole_order(self):
        for many in (6, 7):
            wanted = plain_trees.trees(self.grammar, "S", ("x",) * many)
            self.assertEqual(list(all_trees(self.grammar, ("x",) * many)), wanted)

    def test_the_first_trees(self):
        one = ("one", ("x",))
        made = all_trees(self.grammar, ("x",) * 60)
        tree = next(made)
        wanted = one
        for _ in range(59):
            wanted = ("two", (one, wanted))
        self.assertEqual(plain_trees.text(tree), ("x",) * 60)
        at, other = tree, wanted
        while at[0] == "two":
            self.assertEqual((at[0], at[1][0]), (other[0], other[1][0]))
            at, other = at[1][1], other[1][1]
        self.assertEqual(at, one)
        # The next ones differ at the last place where there is another way: other lengths, then another production.
        for last in (("two", (("two", (one, one)), one)), ("three", (one, one, one))):
            part = next(made)
            for _ in range(57):
                self.assertEqual((part[0], part[1][0]), ("two", one))
                part = part[1][1]
            self.assertEqual(part, last)

    def test_many_of_them(self):
        for at in range(60):
            text = ("n",) + ("+", "n") * (29 - at % 5)
            self.assertEqual(count_trees(SUMS, text), catalan(29 - at % 5))
            self.assertEqual(next(all_trees(SUMS, text))[0], "plus")
            self.assertEqual(len(list(itertools.islice(all_trees(self.grammar, ("x",) * (60 - at % 7)), 3))), 3)


class TestErrors(unittest.TestCase):
    def test_no_grammar(self):
        for wrong in [value for value in ODD if not isinstance(value, Grammar)]:
            with self.assertRaises(InvalidGrammar):
                count_trees(wrong, None)
            made = all_trees(wrong, None)
            with self.assertRaises(InvalidGrammar):
                next(made)

    def test_no_text(self):
        for wrong in ODD + [("x",), ("n", "$"), ("n", "E"), ["n"], "n", ("n", "n", None), ("n",) * 61, ("-",) * 60 + ("n",)]:
            with self.assertRaises(InvalidText):
                count_trees(SUMS, wrong)
            made = all_trees(SUMS, wrong)
            with self.assertRaises(InvalidText):
                next(made)


if __name__ == "__main__":
    unittest.main()
