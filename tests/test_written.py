"""The grammar written out, and its readings [15.1] [0.18] [0.31]; stage 15."""

import itertools
import random
import unittest

from chosentrees.base.grammars import Grammar
from chosentrees.base.trees import all_trees, count_trees
from chosentrees.compare.short_texts import short_texts
from chosentrees.compare.written import MAX_ROWS, label_count, readings, written_out
from chosentrees.errors import InvalidGrammar, InvalidOperation, InvalidText, TooMany
from chosentrees.run.parsers import Parser
from chosentrees.table.levels import Levels
from chosentrees.table.tables import KINDS, Table

import plain_labels
from plain_outcomes import Outcomes
from plain_rows import labels_by, tree_rows
from samples import ELSE, NEAR, NEST, ODD, PAIRS, SUMS
from small import all_grammars, some_texts, told_grammars
from small_filters import EDGES
from test_surveys import some_parsers

WIDE = Grammar.from_lines("s: S -> A A A A A", *[f"{name}: A -> {name}" for name in "abcdefghij"])


def all_of(table):
    """The resolution with the first action of each cell."""
    return {cell: row[0] for cell, row in table.cells.items()}


def rows_with_one_label(grammar, states=1):
    """All rows with labels that tell nothing but the nonterminal and a number below so many."""
    found = []
    for name, head, body in grammar.productions:
        choices = [[(state, each, "", "$") for state in range(states)] if each[0].isupper() else [each] for each in (head,) + body]
        found += [(row[0], name, row[1:]) for row in itertools.product(*choices)]
    return tuple(found)


class TestWrittenOut(unittest.TestCase):
    def test_against_short_texts(self):
        chooser = random.Random(71)
        many = 0
        for grammar in [EDGES] + told_grammars() + all_grammars(every=25)[24:]:
            for parser in chooser.sample(some_parsers(grammar, chooser, 2), 2):
                outcomes = Outcomes(parser, 7, 500)
                starts, rows = written_out(parser)
                told = set().union(*[tree_rows(parser.table, tree) for tree in outcomes.trees.values()])
                self.assertLessEqual(told, set(rows), (grammar.lines, parser.resolution))
                self.assertEqual((list(starts), list(rows)), (sorted(set(starts)), sorted(set(rows))))
                wholes = {plain_labels.label(parser.table, tree, ()) for tree in outcomes.trees.values()}
                self.assertLessEqual(wholes, set(starts))
                self.assertEqual(label_count(parser), len({row[0] for row in rows}))
                self.assertLessEqual({part for row in rows for part in row[2] if not isinstance(part, str)}, {row[0] for row in rows})
                many += len(told)
                self.check_readings(parser, starts, rows, outcomes)
        self.assertGreater(many, 500)

    def check_readings(self, parser, starts, rows, outcomes):
        for text in outcomes.texts[:150]:
            wanted = [outcomes.trees[text]] if text in outcomes.trees else []
            self.assertEqual(list(readings(parser.grammar, (starts, rows), text)), wanted)

    def test_each_row_is_one_of_a_tree(self):
        # For these all rows are those of trees of few terminals.
        levels = Levels((("left", ("+",)), ("left", ("*",)), ("left", ("-",))))
        for parser, most in ((Parser.by(ELSE, Levels()), 16), (Parser.by(NEST, Levels()), 5), (Parser.by(PAIRS, Levels()), 3),
                             (Parser.by(PAIRS, Levels(), kind="lr1"), 3),
                             (Parser.by(ELSE, Levels(), kind="lr1"), 16), (Parser.by(SUMS, levels), 9)):
            found, starts = set(), set()
            for text in short_texts(parser.grammar, most, 10 ** 5):
                tree = parser.tree(text)
                if tree is not None:
                    found |= tree_rows(parser.table, tree)
                    starts.add(plain_labels.label(parser.table, tree, ()))
            self.assertEqual(written_out(parser), (tuple(sorted(starts)), tuple(sorted(found))))

    def test_no_tree_at_all(self):
        for grammar in (SUMS, NEST):
            for kind in KINDS:
                table = Table(grammar, kind)
                without = {cell: action for cell, action in all_of(table).items() if action != "accept"}
                for resolution in ({}, without):
                    parser = Parser(table, resolution)
                    self.assertEqual([written_out(parser), label_count(parser)], [((), ()), 0])
        self.assertEqual(list(readings(SUMS, ((), ()), ("n",))), [])

    def test_the_empty_text(self):
        grammar = Grammar.from_lines("one: S -> a S b", "two: S ->")
        parser = Parser(Table(grammar), all_of(Table(grammar)))
        starts, rows = written_out(parser)
        self.assertEqual(starts, ((0, "S", "", "$"), (0, "S", "a", "$")))
        self.assertEqual([row for row in rows if row[1] == "two"], [(label, "two", ()) for label in ((0, "S", "", "$"), (1, "S", "", "b"))])
        self.assertEqual(list(readings(grammar, (starts, rows), ())), [("two", ())])
        self.assertEqual(list(readings(grammar, (starts[1:], rows), ())), [])

    def test_just_four_thousand_rows_and_more(self):
        self.assertEqual(MAX_ROWS, 4000)
        # The start has 5 ** 5, 5 ** 4, 25 and 5 rows, the parts have 105, 80, 30 and 5.
        lines = ["s: S -> A A A A A", "t: S -> x A A A A", "u: S -> y A A", "v: S -> z A", *[f"{name}: A -> {name}" for name in "abcde"]]
        parser = Parser.by(Grammar.from_lines(*lines), Levels())
        starts, rows = written_out(parser)
        self.assertEqual((len(rows), label_count(parser), len(starts)), (4000, len({row[0] for row in rows}), 8))
        self.assertEqual(list(readings(parser.grammar, (starts, rows), tuple("edcba"))), [parser.tree(tuple("edcba"))])
        parser = Parser.by(Grammar.from_lines(*lines, "w: S -> z"), Levels())
        for call in (written_out, label_count):
            with self.assertRaises(TooMany) as caught:
                call(parser)
            self.assertEqual(caught.exception.limit, 4000)
        for kind in KINDS:
            parser = Parser.by(WIDE, Levels(), kind=kind)
            for call in (written_out, label_count):
                with self.assertRaises(TooMany) as caught:
                    call(parser)
                self.assertEqual(caught.exception.limit, 4000)


class TestReadings(unittest.TestCase):
    def test_one_label_for_each_nonterminal_allows_all_trees(self):
        for grammar in told_grammars() + [EDGES]:
            starts = ((0, grammar.start, "", "$"),)
            for states in (1, 2):
                rows = rows_with_one_label(grammar, states)
                if len(rows) > 60:
                    continue
                for text in some_texts(grammar, 5, 60):
                    made = list(readings(grammar, (starts, rows), text))
                    self.assertEqual(len(made), count_trees(grammar, text))
                    self.assertEqual(sorted(map(repr, made)), sorted(map(repr, all_trees(grammar, text))))

    def test_any_rows(self):
        chooser = random.Random(73)
        many = 0
        for grammar in told_grammars() + all_grammars(every=40)[24:]:
            every = rows_with_one_label(grammar, 2)
            for share in (0.3, 0.6, 0.9):
                rows = tuple(row for row in every if chooser.random() < share)
                rows = tuple(chooser.sample(rows, len(rows))) + rows[:2]
                starts = tuple((state, grammar.start, "", "$") for state in chooser.choice(((0,), (1,), (1, 0), (0, 0, 7))))
                for text in some_texts(grammar, 5, 60):
                    if count_trees(grammar, text) > 50:
                        continue
                    wanted = [tree for tree in all_trees(grammar, text) if labels_by(rows, tree) & set(starts)]
                    made = list(readings(grammar, (starts, rows), text))
                    self.assertEqual(sorted(map(repr, made)), sorted(map(repr, wanted)), (grammar.lines, text, rows))
                    many += len(made) > 1
        self.assertGreater(many, 15)

    def test_very_many_trees_come_one_by_one(self):
        text = ("n",) + ("+", "n") * 29
        made = readings(SUMS, (((0, "E", "", "$"),), rows_with_one_label(SUMS, 2)), text)
        first = [next(made) for _ in range(5)]
        self.assertEqual(len({repr(tree) for tree in first}), 5)
        self.assertTrue(all(plain_labels.plain_trees.text(tree) == text for tree in first))

    def test_long_texts(self):
        levels = Levels((("left", ("+",)), ("left", ("*",)), ("left", ("-",))))
        for kind in KINDS:
            parser = Parser.by(SUMS, levels, kind=kind)
            value = written_out(parser)
            text = ("-", "n") + ("+", "n", "*", "n") * 14 + ("*", "n")
            self.assertEqual(list(readings(SUMS, value, text)), [parser.tree(text)])
            self.assertEqual(list(readings(SUMS, value, text[:-1])), [])

    def test_labels_that_no_row_has(self):
        label = (10 ** 59, "S", "x", "else")
        row = (label, "act", ("x",))
        self.assertEqual(list(readings(ELSE, ((label,), (row,)), ("x",))), [("act", ("x",))])
        self.assertEqual(list(readings(ELSE, ((label,), ()), ("x",))), [])
        self.assertEqual(list(readings(ELSE, ((), (row,)), ("x",))), [])
        self.assertEqual(list(readings(ELSE, (((0, "S", "x", "else"),), (row,)), ("x",))), [])
        outer = (label, "cond", ("if", (1, "S", "", "$")))
        self.assertEqual(list(readings(ELSE, ((label,), (row, outer)), ("if", "x"))), [])
        outer = (label, "cond", ("if", label))
        self.assertEqual(list(readings(ELSE, ((label, label), (row, outer, row)), ("if", "if", "x"))),
                         [("cond", ("if", ("cond", ("if", ("act", ("x",))))))])

    def test_each_nonterminal_written_out_has_at_most_one_tree_for_each_text(self):
        for grammar in (ELSE, NEST, SUMS):
            for kind in KINDS:
                starts, rows = written_out(Parser(Table(grammar, kind), all_of(Table(grammar, kind))))
                for text in some_texts(grammar, 6, 300):
                    trees = list(all_trees(grammar, text))
                    for label in {row[0] for row in rows if row[0][1] == grammar.start}:
                        self.assertLessEqual(len([tree for tree in trees if label in labels_by(rows, tree)]), 1)


class TestErrors(unittest.TestCase):
    def test_no_parsers(self):
        for wrong in ODD + [Table(ELSE), Levels(), NEAR, ((), ())]:
            for call in (written_out, label_count):
                with self.assertRaises(InvalidOperation):
                    call(wrong)

    def test_readings(self):
        starts, rows = written_out(Parser.by(ELSE, Levels()))
        label = starts[0]
        row = ((0, "S", "x", "$"), "act", ("x",))
        for wrong in [value for value in ODD if not isinstance(value, Grammar)]:
            made = readings(wrong, None, None)
            with self.assertRaises(InvalidGrammar):
                next(made)
        bad_labels = [None, (), (0, "S", "x"), (True, "S", "x", "$"), (-1, "S", "x", "$"), (10 ** 60, "S", "x", "$"), ("0", "S", "x", "$"),
                      (0, "T", "x", "$"), (0, "x", "x", "$"), (0, "S", "y", "$"), (0, "S", "$", "$"), (0, "S", "x", ""), (0, "S", "x", "y"),
                      (0, "S", None, "$"), (0, "S", "x", None), (0, None, "x", "$"), [0, "S", "x", "$"], (0, "S", "x", "$", 0), (0, ("S",), "x", "$"),
                      (0, "S", ("x",), "$"), (0, "S", "S", "$")]
        bad_rows = [None, (), row[:2], row + (0,), list(row), (row[0], "odd", ("x",)), (row[0], None, ("x",)), (row[0], "act", ["x"]),
                    (row[0], "act", ()), (row[0], "act", ("if",)), (row[0], "act", (row[0],)), (row[0], "act", ("x", "x")), (row[0], ("act",), ("x",)),
                    (row[0], "cond", ("if", "S")), (row[0], "cond", ("if", row)), (row[0], "cond", (row[0], row[0])), (row[0], "cond", ("if", None))]
        bad_rows += [(each, "act", ("x",)) for each in bad_labels] + [(row[0], "cond", ("if", each)) for each in bad_labels]
        values = ODD + [(starts,), (starts, rows, ()), [starts, rows], (list(starts), rows), (starts, list(rows)), (starts, None), (None, rows),
                        (label, rows), (starts, row)]
        values += [((each,), rows) for each in bad_labels] + [((label, each), rows) for each in bad_labels] + [(starts, (row, each)) for each in bad_rows]
        for wrong in values:
            made = readings(ELSE, wrong, None)
            with self.assertRaises(InvalidOperation, msg=repr(wrong)[:100]):
                next(made)
        for wrong in ODD + [("y",), ("x",) * 61, ["x"], "x", ("$",), ("S",)]:
            if wrong == ():
                continue
            made = readings(ELSE, (starts, rows), wrong)
            with self.assertRaises(InvalidText):
                next(made)
        self.assertEqual(list(readings(ELSE, (starts, rows), ())), [])

    def test_labels_of_other_nonterminals(self):
        # The label of a part is one of the nonterminal that stands there.
        top = (0, "S", "c", "$")
        made = readings(NEST, ((top,), ((top, "push", (top, top, "b")),)), ("c",))
        with self.assertRaises(InvalidOperation):
            next(made)
        made = readings(NEST, (((0, "A", "", "c"),), ()), ("c",))
        with self.assertRaises(InvalidOperation):
            next(made)


if __name__ == "__main__":
    unittest.main()
