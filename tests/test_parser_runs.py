"""Runs against a plain machine, over all short texts of small grammars [0.15] [0.16]."""

import random
import unittest

from chosentrees.base.grammars import Grammar
from chosentrees.base.trees import count_trees, text_of
from chosentrees.run.parsers import Parser
from chosentrees.table.tables import KINDS, Table

import plain_parsers
import plain_trees
from samples import NEST
from small import all_grammars, some_texts


class TestAgainstAPlainMachine(unittest.TestCase):
    def test_small_grammars(self):
        chooser = random.Random(7)
        seen = {"tree": 0, "refused": 0, "endless": 0}
        for grammar in all_grammars(every=4):
            texts = some_texts(grammar, 5, 60)
            for kind in KINDS:
                table = Table(grammar, kind)
                for resolution in plain_parsers.resolutions(table, chooser, 4):
                    self.compare(Parser(table, resolution), table, resolution, texts, seen)
        self.assertGreater(min(seen.values()), 100, seen)

    def test_reductions_of_empty_bodies_first(self):
        seen = {"tree": 0, "refused": 0, "endless": 0}
        for grammar in all_grammars(every=2):
            bare = [name for name, head, body in grammar.productions if not body]
            for kind in KINDS:
                table = Table(grammar, kind)
                for order in (bare, bare[::-1]):
                    cells = {cell: next((name for name in order if name in row), row[0])
                             for cell, row in table.cells.items()}
                    self.compare(Parser(table, cells), table, cells, some_texts(grammar, 4, 30), seen)
        self.assertGreater(min(seen.values()), 300, seen)

    def compare(self, parser, table, resolution, texts, seen):
        for text in texts:
            wanted, steps = plain_parsers.run(table, resolution, text)
            seen[wanted[0]] += 1
            self.assertEqual(parser(text), wanted)
            self.assertEqual(parser.outcome(text), wanted)
            self.assertEqual(list(parser.steps(text)), steps)
            self.assertIs(text in parser, wanted[0] == "tree")
            self.assertEqual(parser.tree(text), wanted[1] if wanted[0] == "tree" else None)
            if wanted[0] == "tree":
                self.assertEqual(text_of(table.grammar, wanted[1]), text)
                self.assertIn(wanted[1], plain_trees.trees(table.grammar, table.grammar.start, text))

    def test_parsers_without_conflicts_build_each_tree(self):
        many = 0
        for grammar in all_grammars(every=2):
            table = Table(grammar, "lr1")
            if not table.conflicts:
                parser = Parser(table, {cell: row[0] for cell, row in table.cells.items()})
                for text in some_texts(grammar, 6, 200):
                    self.assertEqual(text in parser, count_trees(grammar, text) == 1)
                    many += text in parser
        self.assertGreater(many, 100)


class TestEndlessRuns(unittest.TestCase):
    def test_endless_at_a_later_lookahead(self):
        grammar = Grammar.from_lines("one: S -> x T", "push: T -> A T b", "base: T -> c", "none: A ->")
        table = Table(grammar)
        cells = {cell: "none" if "none" in row else row[0] for cell, row in table.cells.items()}
        parser = Parser(table, cells)
        self.assertEqual(parser(("x", "c")), ("endless", 1))
        rows = list(parser.steps(("x", "c")))
        self.assertEqual([row[2] for row in rows], ["shift", "none", "none", None])
        self.assertEqual(len(set(rows[-1][0][-2:])), 1)

    def test_a_state_that_was_taken_off_does_not_count(self):
        # At the end each reduction of a deep tree comes back to the same last state, but takes others off.
        grammar = Grammar.from_lines("one: S -> a S", "two: S -> b")
        table = Table(grammar)
        parser = Parser(table, {cell: row[0] for cell, row in table.cells.items()})
        rows = list(parser.steps(("a", "a", "a", "b")))
        lasts = [row[0][-1] for row in rows if row[1] == "$"]
        self.assertEqual((len(lasts), len(set(lasts))), (5, 3))
        self.assertEqual(parser(("a", "a", "a", "b"))[0], "tree")

    def test_endless_at_the_end(self):
        table = Table(NEST, "lr0")
        parser = Parser(table, {(0, "$"): "none", (2, "$"): "none"})
        self.assertEqual([parser(()), parser(("c",))], [("endless", 0), ("refused", 0)])
        self.assertEqual(list(parser.steps(())), [((0,), "$", "none"), ((0, 2), "$", "none"), ((0, 2, 2), "$", None)])

    def test_two_states_in_turn(self):
        grammar = Grammar.from_lines("one: S -> A B S c", "two: S -> d", "three: A ->", "four: B ->")
        table = Table(grammar, "lr0")
        cells = {cell: next(name for name in row if name in ("three", "four")) for cell, row in table.cells.items()
                 if set(row) & {"three", "four"}}
        parser = Parser(table, cells)
        rows = list(parser.steps(("d",)))
        self.assertEqual([row[2] for row in rows], ["three", "four", "three", "four", None][:len(rows) - 1] + [None])
        self.assertEqual((parser(("d",)), plain_parsers.run(table, cells, ("d",))[1]), (("endless", 0), rows))


if __name__ == "__main__":
    unittest.main()
