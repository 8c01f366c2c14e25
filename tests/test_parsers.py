"""Parsers: their form, and what wrong inputs raise [0.15] [0.16]."""

import unittest

from chosentrees.base.grammars import Grammar
from chosentrees.errors import (InvalidGrammar, InvalidLevels, InvalidOperation, InvalidResolution, InvalidText,
                                TooMany)
from chosentrees.run.parsers import Parser
from chosentrees.table.levels import Levels
from chosentrees.table.tables import KINDS, Table

import plain_trees
from samples import ELSE, FAR, NEAR, ODD, SUMS
from test_tables import OVER

NEAR_PARSER = Parser.by(ELSE, Levels())
NOT_TEXTS = [("if", "S"), ("if", "$"), ["if", "x"], "if x", ("x",) * 61, ("if", None), ("if", "y"), (True,), (("x",),),
             {"x": 1}, None, True, 0]


class TestForm(unittest.TestCase):
    def test_properties(self):
        table = Table(ELSE, "slr")
        cells = {(0, "x"): "shift", (0, "if"): "shift"}
        parser = Parser(table, cells)
        self.assertEqual((parser.table, parser.resolution, parser.grammar), (table, cells, ELSE))
        self.assertEqual(list(parser.resolution), sorted(cells))
        self.assertEqual(str(parser), "slr parser with 2 actions")

    def test_equality(self):
        table = Table(ELSE)
        self.assertTrue(Parser(table, {}) == Parser(Table(ELSE), {}) and not Parser(table, {}) != Parser(table, {}))
        self.assertTrue(Parser(table, {}) != Parser(Table(ELSE, "slr"), {}))
        self.assertTrue(Parser(table, {}) != Parser(table, {(0, "x"): "shift"}))
        for value in ODD + [table, {}]:
            self.assertIs(Parser(table, {}) == value, False)

    def test_by_levels(self):
        levels = Levels((("left", ("+",)),))
        for kind in KINDS:
            parser = Parser.by(SUMS, levels, kind=kind)
            self.assertEqual(parser, Parser(Table(SUMS, kind), levels(Table(SUMS, kind))))
        self.assertEqual(Parser.by(SUMS, levels).table.kind, "lalr")

    def test_not_iterable(self):
        with self.assertRaises(TypeError):
            iter(NEAR_PARSER)

    def test_outcomes(self):
        for call in (NEAR_PARSER, NEAR_PARSER.outcome):
            self.assertEqual(call(("if", "x")), ("tree", ("cond", ("if", ("act", ("x",))))))
            self.assertEqual([call(()), call(("if",)), call(("x", "else")), call(("x", "x"))],
                             [("refused", 0), ("refused", 1), ("refused", 1), ("refused", 1)])
        self.assertEqual(NEAR_PARSER.tree(("if", "if", "x", "else", "x")), NEAR)
        self.assertIs(NEAR_PARSER.tree(("if",)), None)
        far = Parser(Table(ELSE), {**NEAR_PARSER.resolution, (4, "else"): "cond"})
        self.assertEqual(far(("if", "if", "x", "else", "x")), ("refused", 3))
        exact = Table(ELSE, "lr1")
        both = Parser(exact, {**Levels()(exact), (7, "else"): "cond"})
        self.assertEqual(both(("if", "if", "x", "else", "x")), ("tree", FAR))

    def test_texts_of_sixty_terminals(self):
        tree = NEAR_PARSER.tree(("if",) * 59 + ("x",))
        depth = 0
        while not isinstance(tree, str):
            tree, depth = tree[1][-1], depth + 1
        self.assertEqual(depth, 60)
        self.assertEqual(NEAR_PARSER(("if",) * 60), ("refused", 60))
        self.assertEqual(len(list(NEAR_PARSER.steps(("if",) * 60))), 61)

    def test_trees_with_more_nodes(self):
        deep = Grammar.from_lines("a: S -> A x S", "b: S -> z", "c: A -> B B B B B", "d: B -> C C C C C",
                                  "e: C -> D D D D D", "f: D ->")
        table = Table(deep)
        self.assertEqual(table.conflicts, {})
        parser = Parser(table, {cell: row[0] for cell, row in table.cells.items()})
        word, tree = parser(("x",) * 59 + ("z",))
        self.assertEqual((word, len(plain_trees.nodes(tree[1][0])), tree[1][1]), ("tree", 1 + 5 + 25 + 125, "x"))
        depth = 0
        while tree[0] == "a":
            tree, depth = tree[1][2], depth + 1
        self.assertEqual((depth, tree), (59, ("b", ("z",))))

    def test_texts_in_parsers(self):
        self.assertIs(("if", "x") in NEAR_PARSER, True)
        self.assertIs(("if",) in NEAR_PARSER, False)
        for value in ODD + NOT_TEXTS:
            self.assertIs(value in NEAR_PARSER, False)

    def test_nothing_is_shared(self):
        cells = {(0, "x"): "shift", (2, "$"): "act", (3, "$"): "accept"}
        parser = Parser(Table(ELSE), cells)
        cells.clear()
        parser.resolution.clear()
        self.assertEqual((len(parser.resolution), parser.tree(("x",))), (3, ("act", ("x",))))

    def test_steps_leave_the_parser_as_it_is(self):
        one, two = NEAR_PARSER.steps(("if", "x")), NEAR_PARSER.steps(("x",))
        row = [next(one), next(two), next(one), next(two), next(one)]
        self.assertEqual([step[0] for step in row], [(0,), (0,), (0, 1), (0, 2), (0, 1, 2)])
        self.assertEqual(len(list(one)) + len(list(two)), 3)


class TestErrors(unittest.TestCase):
    def test_no_table_and_no_resolution(self):
        table = Table(SUMS)
        for wrong in ODD:
            with self.assertRaises(InvalidOperation):
                Parser(wrong, {(0, "$"): "accept"})
            if wrong != {}:
                with self.assertRaises(InvalidResolution):
                    Parser(table, wrong)
        for wrong in ({(0, "$"): "accept"}, {(True, "n"): "shift"}, {(0, "n"): "num"}, {(0, "n"): None}, [], ()):
            with self.assertRaises(InvalidResolution):
                Parser(table, wrong)

    def test_by(self):
        for wrong in [value for value in ODD if not isinstance(value, Grammar)]:
            with self.assertRaises(InvalidGrammar):
                Parser.by(wrong, None, kind=None)
        for wrong in ODD + [{}]:
            with self.assertRaises(InvalidLevels):
                Parser.by(SUMS, wrong, kind=None)
            with self.assertRaises(InvalidLevels):
                Parser.by(OVER, wrong, kind="lr1")
            with self.assertRaises(InvalidOperation):
                Parser.by(OVER, Levels(), kind=wrong)
        with self.assertRaises(TooMany):
            Parser.by(OVER, Levels(), kind="lr1")

    def test_no_texts(self):
        for wrong in [value for value in ODD if value != ()] + NOT_TEXTS:
            for call in (NEAR_PARSER, NEAR_PARSER.outcome, NEAR_PARSER.tree):
                with self.assertRaises(InvalidText):
                    call(wrong)
            made = NEAR_PARSER.steps(wrong)
            with self.assertRaises(InvalidText):
                next(made)


if __name__ == "__main__":
    unittest.main()
