"""Cells that runs meet, endless texts and lost texts, against all short texts [0.16] [14.1]; stage 14."""

import itertools
import random
import unittest

from chosentrees.base.grammars import Grammar
from chosentrees.base.trees import count_trees
from chosentrees.compare.met import cells_met, endless_text, lost_texts, refusing, text_to
from chosentrees.compare.short_texts import short_texts
from chosentrees.errors import InvalidNumber, InvalidOperation, TooMany
from chosentrees.run.parsers import Parser
from chosentrees.table.levels import Levels
from chosentrees.table.tables import KINDS, Table

import oracle
import plain_parsers
from plain_outcomes import Outcomes, long_lines, order
from samples import ELSE, NEAR, NEST, ODD, PAIRS, SUMS
from small import all_grammars, some_texts, told_grammars
from small_filters import EDGES
from test_surveys import some_parsers


def all_of(table):
    """The resolution with the first action of each cell."""
    return {cell: row[0] for cell, row in table.cells.items()}


def eager(table):
    """A parser that reduces to parts without terminals wherever it can."""
    empty = [name for name, head, body in table.grammar.productions if body == ()]
    return Parser(table, {cell: next((name for name in row if name in empty), row[0]) for cell, row in table.cells.items()})


class TestAgainstShortTexts(unittest.TestCase):
    def test_small_grammars(self):
        chooser = random.Random(61)
        seen = {"met": 0, "longer": 0, "endless": 0, "ended": 0, "refusing": 0}
        for grammar in [EDGES] + told_grammars() + all_grammars(every=12)[24:]:
            for parser in chooser.sample(some_parsers(grammar, chooser, 2), 3) + [eager(Table(grammar, chooser.choice(KINDS)))]:
                outcomes = Outcomes(parser, 7, 600)
                self.check_cells(parser, outcomes, seen)
                self.check_endless(parser, outcomes, seen)
        self.assertGreater(min(seen.values()), 10, seen)

    def check_cells(self, parser, outcomes, seen):
        cells = cells_met(parser)
        self.assertEqual(cells, tuple(sorted(set(cells))))
        self.assertLessEqual(set(outcomes.cells), set(cells))
        self.assertEqual(refusing(parser), tuple(cell for cell in cells if cell not in parser.resolution))
        for cell in cells:
            text = text_to(parser, cell)
            if cell in outcomes.cells:
                seen["met"] += 1
                self.assertEqual(text, outcomes.cells[cell], (parser.grammar.lines, parser.resolution, cell))
            else:
                seen["longer"] += 1
                self.assertGreater(len(text), outcomes.most)
                steps = plain_parsers.run(parser.table, parser.resolution, text)[1]
                self.assertIn(cell, [(stack[-1], ahead) for stack, ahead, action in steps])
        for state, ahead in itertools.product(range(len(parser.table)), parser.grammar.terminals + ("$",)):
            if (state, ahead) not in cells:
                with self.assertRaises(InvalidOperation):
                    text_to(parser, (state, ahead))
        seen["refusing"] += len(refusing(parser))

    def check_endless(self, parser, outcomes, seen):
        text = endless_text(parser)
        seen["ended" if text is None else "endless"] += 1
        if outcomes.endless:
            self.assertEqual(text, outcomes.endless[0])
        elif text is not None:
            self.assertGreater(len(text), outcomes.most)
            self.assertEqual(parser(text)[0], "endless")

    def test_lost_texts(self):
        chooser = random.Random(67)
        many = 0
        for grammar in told_grammars() + all_grammars(every=12)[24:]:
            texts = sorted(some_texts(grammar, 6, 1200), key=order)
            with_trees = [text for text in texts if count_trees(grammar, text)]
            for parser in chooser.sample(some_parsers(grammar, chooser, 2), 2):
                most = min(chooser.randrange(7), len(texts[-1]))
                wanted = [text for text in with_trees if len(text) <= most and parser.tree(text) is None]
                many += len(wanted)
                self.assertEqual(list(lost_texts(parser, most=most)), wanted, (grammar.lines, parser.resolution))
        self.assertGreater(many, 150)

    def test_short_texts(self):
        for grammar in told_grammars() + all_grammars(every=3)[24:]:
            told = oracle.all_texts(grammar.productions)[grammar.start]
            for most in (0, 2, 6):
                wanted = sorted([text for text in told if len(text) <= most], key=order)
                self.assertEqual(short_texts(grammar, most, 10 ** 6), wanted)
                if wanted:
                    self.assertEqual(short_texts(grammar, most, len(wanted)), wanted)
                    with self.assertRaises(TooMany) as caught:
                        short_texts(grammar, most, len(wanted) - 1)
                    self.assertEqual(caught.exception.limit, len(wanted) - 1)


class TestCells(unittest.TestCase):
    def test_parsers_without_actions(self):
        for grammar in (ELSE, NEST, PAIRS):
            parser = Parser(Table(grammar, "slr"), {})
            cells = tuple((0, ahead) for ahead in sorted(grammar.terminals + ("$",)))
            self.assertEqual([cells_met(parser), refusing(parser)], [cells, cells])
            self.assertEqual([text_to(parser, cell) for cell in cells[1:]], [(cell[1],) for cell in cells[1:]])
            self.assertEqual([text_to(parser, (0, "$")), endless_text(parser)], [(), None])

    def test_texts_without_a_tree_count(self):
        parser = Parser.by(ELSE, Levels())
        self.assertEqual([text_to(parser, (3, "else")), text_to(parser, (0, "else")), text_to(parser, (0, "$"))],
                         [("x", "else"), ("else",), ()])
        self.assertNotIn((3, "if"), cells_met(parser))
        self.assertIn((2, "if"), cells_met(parser))
        self.assertEqual(text_to(parser, (2, "if")), ("x", "if"))
        slr = Parser(Table(ELSE, "lr0"), all_of(Table(ELSE, "lr0")))
        self.assertEqual(text_to(slr, (3, "if")), ("x", "if"))

    def test_behind_accept_the_cell_is_the_same(self):
        for kind in KINDS:
            parser = Parser.by(SUMS, Levels(), kind=kind)
            self.assertEqual(text_to(parser, (parser.table.walk(("E",)), "$")), ("n",))

    def test_all_kinds(self):
        for grammar in (PAIRS, SUMS, NEST):
            for kind in KINDS:
                parser = Parser.by(grammar, Levels(), kind=kind)
                for cell in cells_met(parser):
                    steps = [(stack[-1], ahead) for stack, ahead, action in parser.steps(text_to(parser, cell))]
                    self.assertIn(cell, steps)
        # With exact lookaheads a wrong terminal is seen before anything is reduced.
        many = [len(cells_met(Parser.by(ELSE, Levels(), kind=kind))) for kind in KINDS]
        self.assertGreater(many[0], many[2])

    def test_just_sixty_terminals_and_more(self):
        for last, many in (("C C C", 60), ("C C C z", 61)):
            grammar = Grammar.from_lines(*long_lines(last))
            parser = Parser(Table(grammar), all_of(Table(grammar)))
            behind = parser.table.walk(("C", "C", "C"))
            whole = parser.table.walk(("S",))
            self.assertEqual(text_to(parser, (parser.table.walk(("C", "C")), "x")), ("x",) * 41)
            if many == 60:
                self.assertEqual([text_to(parser, (whole, "$")), text_to(parser, (behind, "$"))], [("x",) * 60] * 2)
                continue
            # Sixty terminals have been shifted there, and the lookahead is one more.
            for cell in ((behind, "z"), (whole, "$")):
                with self.assertRaises(TooMany) as caught:
                    text_to(parser, cell)
                self.assertEqual(caught.exception.limit, 60)
            self.assertIn((behind, "z"), cells_met(parser))
            with self.assertRaises(InvalidOperation):
                text_to(parser, (behind, "$"))

    def test_the_table_is_not_enough(self):
        # No run comes to a state behind a shift that the resolution does not have.
        parser = Parser(Table(ELSE), {cell: action for cell, action in all_of(Table(ELSE)).items() if cell[1] != "if"})
        self.assertEqual({cell[0] for cell in cells_met(parser)}, {0, 2, 3})


class TestEndless(unittest.TestCase):
    def test_parts_without_terminals(self):
        for resolution, wanted in (({(0, "c"): "none", (2, "c"): "none"}, ("c",)), ({(0, "c"): "none"}, None),
                                   ({(2, "c"): "none"}, None), ({(0, "b"): "none", (2, "b"): "none"}, ("b",)),
                                   ({(0, "c"): "none", (2, "c"): "shift"}, None), ({}, None)):
            self.assertEqual(endless_text(Parser(Table(NEST, "lr0"), resolution)), wanted)
        parser = Parser(Table(NEST, "lr0"), {(0, "$"): "none", (2, "$"): "none", (0, "c"): "none", (2, "c"): "none"})
        self.assertEqual([endless_text(parser), parser(())], [(), ("endless", 0)])

    def test_the_least_of_several(self):
        grammar = Grammar.from_lines("one: S -> x T", "two: S -> y y T", "push: T -> A T b", "base: T -> c", "none: A ->")
        table = Table(grammar)
        inner = table.walk(("x", "A"))
        for state, wanted in ((table.walk(("x",)), ("x", "c")), (table.walk(("y", "y")), ("y", "y", "c"))):
            shifts = {cell: "shift" for cell in table.cells if cell[1] in "xy"}
            parser = Parser(table, {**shifts, (state, "c"): "none", (inner, "c"): "none"})
            self.assertEqual([endless_text(parser), parser(wanted)], [wanted, ("endless", len(wanted) - 1)])

    def test_just_sixty_terminals_and_more(self):
        lines = ("s: S -> C C C V", "c: C -> D D D x", "d: D -> x x x x x", "push: T -> A T b", "base: T -> c", "none: A ->")
        for last in ("v: V -> D D x T", "v: V -> D D x x T"):
            grammar = Grammar.from_lines(*lines, last)
            table = Table(grammar)
            parser = Parser(table, {cell: "none" if "none" in row else row[0] for cell, row in table.cells.items()})
            if last == "v: V -> D D x T":
                self.assertEqual(endless_text(parser), ("x",) * 59 + ("c",))
                continue
            with self.assertRaises(TooMany) as caught:
                endless_text(parser)
            self.assertEqual(caught.exception.limit, 60)


class TestLostTexts(unittest.TestCase):
    def test_lengths(self):
        near = Parser.by(ELSE, Levels())
        parser = Parser(Table(ELSE), {**near.resolution, (4, "else"): "cond"})
        self.assertEqual([list(lost_texts(near, most=most)) for most in range(7)], [[]] * 7)
        self.assertEqual([len(list(lost_texts(parser, most=most))) for most in range(7)], [0, 0, 0, 0, 1, 3, 6])
        self.assertEqual(list(lost_texts(Parser(Table(ELSE), {}), most=3)), [("x",), ("if", "x"), ("if", "if", "x")])
        empty = Grammar.from_lines("one: S -> a S b", "two: S ->")
        self.assertEqual(list(lost_texts(Parser(Table(empty), {}), most=0)), [()])
        self.assertEqual(list(lost_texts(Parser(Table(empty), {}), most=3)), [(), ("a", "b")])
        self.assertEqual(list(lost_texts(Parser(Table(empty), all_of(Table(empty))), most=6)), [])

    def test_more_than_five_thousand_texts(self):
        letters = [f"{name}: S -> {name} S" for name in "abcdefghij"]
        grammar = Grammar.from_lines(*letters, "end: S -> a")
        parser = Parser(Table(grammar), {})
        self.assertEqual(len(list(lost_texts(parser, most=4))), 1111)
        for most in (5, 6):
            made = lost_texts(parser, most=most)
            with self.assertRaises(TooMany) as caught:
                next(made)
            self.assertEqual(caught.exception.limit, 5000)
        # Just 5000: four letters behind three of ten, and three of ten.
        rows = [f"{name}: A -> {name}" for name in "abcdefghij"] + [f"{name}: B -> {name[0]}" for name in ("aa", "bb", "cc", "dd")]
        grammar = Grammar.from_lines("long: S -> A A A B", "short: S -> A A A", *rows)
        self.assertEqual(len(list(lost_texts(Parser(Table(grammar), {}), most=6))), 5000)
        grammar = Grammar.from_lines("long: S -> A A A B", "short: S -> A A A", *(rows[:-1] + ["dd: B -> d d"]))
        self.assertEqual(len(list(lost_texts(Parser(Table(grammar), {}), most=4))), 4000)
        self.assertEqual(len(list(lost_texts(Parser(Table(grammar), {}), most=5))), 5000)

    def test_parts_with_very_many_texts_that_are_not_needed(self):
        letters = [f"{name}: A -> {name} A" for name in "abcdefghi"]
        grammar = Grammar.from_lines("one: S -> x x x x A", *letters, "end: A -> a")
        parser = Parser(Table(grammar), {})
        self.assertEqual([len(list(lost_texts(parser, most=most))) for most in (3, 4, 5, 6)], [0, 0, 1, 10])

    def test_they_come_one_by_one(self):
        made = lost_texts(Parser(Table(SUMS), {}), most=6)
        self.assertEqual([next(made), next(made)], [("n",), ("-", "n")])


class TestErrors(unittest.TestCase):
    def test_no_parsers(self):
        for wrong in ODD + [Table(ELSE), Levels(), NEAR]:
            for call in (cells_met, refusing, endless_text, lambda value: text_to(value, None)):
                with self.assertRaises(InvalidOperation):
                    call(wrong)
            made = lost_texts(wrong, most=None)
            with self.assertRaises(InvalidOperation):
                next(made)

    def test_no_cells(self):
        parser = Parser.by(ELSE, Levels())
        for wrong in ODD + [(4, "if"), (4, "S"), (True, "x"), [0, "x"], (0, "x", 0), (0,), (99, "x"), (-1, "x"), (0, ("x",)), (0, None),
                            ("0", "x"), (10 ** 70, "x"), (0, "y"), ((0, "x"),), {(0, "x"): True}, NEAR]:
            with self.assertRaises(InvalidOperation):
                text_to(parser, wrong)
        self.assertEqual(text_to(parser, (1, "x")), ("if", "x"))

    def test_no_numbers(self):
        parser = Parser.by(ELSE, Levels())
        for wrong in [value for value in ODD if value not in (0, 1, 3) or isinstance(value, bool)] + [7, -1, "3", (3,), [3]]:
            made = lost_texts(parser, most=wrong)
            with self.assertRaises(InvalidNumber) as caught:
                next(made)
            self.assertIs(caught.exception.given, wrong)


if __name__ == "__main__":
    unittest.main()
