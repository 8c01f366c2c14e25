"""What holds for all functions alike [0.1] to [0.6]."""

import unittest

from chosentrees import errors
from chosentrees.base import grammars, symbols
from chosentrees.base.grammars import Grammar, renamed
from chosentrees.base.trees import all_trees, count_trees, is_tree, part_at, text_of
from chosentrees.errors import (InvalidGrammar, InvalidLevels, InvalidNumber, InvalidOperation, InvalidResolution,
                                InvalidText, InvalidTree, ParseError, TooMany, UnknownName)
from chosentrees.run.parsers import Parser
from chosentrees.table.levels import Levels, common, is_contained, is_resolution, joined, settled
from chosentrees.table.tables import Table

from samples import ELSE, NEAR, NEST, ODD, PAIRS, SUMS


class TestJudges(unittest.TestCase):
    def test_they_return_booleans_for_all_values(self):
        judges = [symbols.is_terminal, symbols.is_nonterminal, symbols.is_name, symbols.is_terminals, SUMS.is_part_of]
        for judge in judges:
            for value in ODD + ["", "a", "E", "+", "$", (), ("a",), SUMS, ELSE, SUMS.productions]:
                self.assertIn(type(judge(value)), (bool,))

    def test_true_is_not_one(self):
        self.assertIs(symbols.is_terminal(True), False)
        self.assertIs(symbols.is_terminals((True,)), False)
        self.assertIs(symbols.is_name(False), False)
        self.assertIs(symbols.is_nonterminal(True), False)


class TestStates(unittest.TestCase):
    def test_equal_calls_return_equal_results(self):
        for grammar in (SUMS, ELSE, NEST, PAIRS):
            for each in grammar.nonterminals:
                for method in (grammar.of, grammar.firsts, grammar.follows, grammar.least):
                    self.assertEqual(method(each), method(each))
            self.assertEqual((grammar.productions, grammar.names, grammar.lines, grammar.terminals, list(grammar)),
                             (grammar.productions, grammar.names, grammar.lines, grammar.terminals, list(grammar)))

    def test_signs_leave_grammars_as_they_are(self):
        before = SUMS.lines
        same = Grammar(SUMS.productions)
        results = [SUMS + ("par", "E", ("(", "E", ")")), SUMS - "neg", SUMS | (SUMS - "neg"), renamed(SUMS)]
        self.assertEqual((SUMS.lines, SUMS.terminals, SUMS.nonterminals), (before, ("*", "+", "-", "n"), ("E",)))
        self.assertEqual((SUMS.follows("E"), SUMS.firsts("E"), SUMS.least("E")), (("$", "*", "+"), ("-", "n"), ("n",)))
        self.assertEqual(SUMS, same)
        self.assertEqual([each.terminals for each in results], [("(", ")", "*", "+", "-", "n"), ("*", "+", "n"),
                                                                ("*", "+", "-", "n"), ("*", "+", "-", "n")])

    def test_signs_with_assignment_make_new_grammars(self):
        made = kept = ELSE
        made += ("loop", "S", ("while", "S"))
        self.assertEqual((len(made), len(kept)), (4, 3))
        made -= "loop"
        self.assertEqual((made, len(kept)), (ELSE, 3))
        made |= Grammar.from_lines("more: S -> y")
        self.assertEqual((len(made), len(kept)), (4, 3))

    def test_errors_have_no_effect(self):
        for wrong in ODD:
            for call in (SUMS.of, SUMS.__getitem__, SUMS.__add__, SUMS.__sub__, SUMS.least, SUMS.firsts, SUMS.follows):
                with self.assertRaises((UnknownName, InvalidOperation)):
                    call(wrong)
        self.assertEqual(SUMS, Grammar.from_lines("num: E -> n", "plus: E -> E + E", "times: E -> E * E",
                                                  "neg: E -> - E"))

    def test_errors_are_not_iterable(self):
        for made in (ParseError(3), TooMany(60), UnknownName("E"), InvalidGrammar("no"), errors.Refused(("lost", ()))):
            with self.assertRaises(TypeError):
                iter(made)


class TestWhichErrorComesFirst(unittest.TestCase):
    def test_unknown_names_before_too_many(self):
        grammar = Grammar.from_lines("a: S -> A A A A A", "b: A -> B B B", "c: B -> x x x x x")
        for wrong in ("C", "x", None, ("S",)):
            with self.assertRaises(UnknownName):
                grammar.least(wrong)
        with self.assertRaises(TooMany):
            grammar.least("S")

    def test_productions_before_grammars(self):
        full = Grammar(tuple((name, "S", tuple(name)) for name in "a b ab ba aa bb aaa bbb aab abb aba bab bba baa aaaa "
                             "bbbb".split(" ")))
        self.assertEqual(len(full), 16)
        with self.assertRaises(InvalidOperation):
            full + ("abab", "S", ["a"])
        with self.assertRaises(InvalidGrammar):
            full + ("abab", "S", ("b", "a", "b", "a"))

    def test_names_before_grammars(self):
        one = Grammar.from_lines("one: S -> x")
        with self.assertRaises(UnknownName):
            one - "two"
        with self.assertRaises(InvalidGrammar):
            one - "one"

    def test_both_texts_wrong(self):
        for one, other in ((("a",) * 61, ["a"]), (True, None), ("a", ("$",))):
            with self.assertRaises(InvalidText):
                symbols.is_before(one, other)

    def test_lines_before_grammars(self):
        with self.assertRaises(ParseError) as caught:
            Grammar.from_lines("a: S -> S", "a: S -> S", "a: S -> S ", True)
        self.assertEqual(caught.exception.line, 2)

    def test_renamed(self):
        for wrong in ({"symbols": 1}, {"names": 1}, {"symbols": {"q": "r"}, "names": True}):
            with self.assertRaises(InvalidGrammar):
                renamed("SUMS", **wrong)
            with self.assertRaises(InvalidOperation):
                renamed(SUMS, **wrong)


class TestWrongObjectsOfThePackage(unittest.TestCase):
    """Objects of the package stand where others are asked for."""

    def setUp(self):
        table = Table(ELSE)
        self.objects = [table, Levels(), Parser(table, {}), ParseError(3), Levels((("left", ("x",)),)), table.cells]

    def test_judges(self):
        for value in self.objects + [ELSE]:
            for told in (is_tree(ELSE, value), is_resolution(Table(ELSE), value), value in Table(ELSE),
                         value in Levels(), value in Parser(Table(ELSE), {}), symbols.is_terminals(value)):
                self.assertIs(told, False)

    def test_functions(self):
        grammar, table = ELSE, Table(ELSE)
        parser = Parser(table, {})
        calls = [
            (lambda value: count_trees(value, ()), InvalidGrammar), (lambda value: count_trees(grammar, value), InvalidText),
            (lambda value: text_of(grammar, value), InvalidTree), (lambda value: part_at(grammar, NEAR, value), InvalidOperation),
            (Table, InvalidGrammar), (lambda value: Table(grammar, value), InvalidOperation),
            (lambda value: table[value], InvalidOperation), (table.items, InvalidOperation),
            (lambda value: table.after(0, value), UnknownName), (table.walk, InvalidOperation),
            (lambda value: table.lookaheads(0, value), UnknownName), (Levels, InvalidLevels),
            (lambda value: Levels(own=value), InvalidLevels), (lambda value: Levels(order=value), InvalidLevels),
            (lambda value: Levels()[value], InvalidNumber), (lambda value: Levels() + value, InvalidOperation),
            (lambda value: Parser(table, value), InvalidResolution), (parser, InvalidText), (parser.tree, InvalidText),
            (joined, InvalidResolution), (common, InvalidResolution), (lambda value: is_contained({}, value), InvalidResolution),
        ]
        for value in self.objects:
            for call, error in calls:
                with self.assertRaises(error):
                    call(value)
        for value in [each for each in self.objects if not isinstance(each, Table)]:
            for call in (settled, Levels(), lambda value: Parser(value, {})):
                with self.assertRaises(InvalidOperation):
                    call(value)
        for value in [each for each in self.objects if not isinstance(each, Levels)]:
            with self.assertRaises(InvalidLevels):
                Parser.by(grammar, value)


class TestSeveralWrongArguments(unittest.TestCase):
    def test_the_first_one_decides(self):
        wrong = [None, True, [], (1,), "x"]
        for one in wrong:
            for two in wrong:
                for three in wrong:
                    for call, error in (
                            (lambda: is_tree(one, two), InvalidGrammar), (lambda: part_at(one, two, three), InvalidGrammar),
                            (lambda: part_at(ELSE, two, three), InvalidTree), (lambda: count_trees(one, two), InvalidGrammar),
                            (lambda: next(all_trees(one, two)), InvalidGrammar), (lambda: Table(one, two), InvalidGrammar),
                            (lambda: Table(ELSE).after(one, two), InvalidOperation),
                            (lambda: Table(ELSE).lookaheads(one, two), InvalidOperation),
                            (lambda: is_resolution(one, two), InvalidOperation),
                            (lambda: Parser(one, two), InvalidOperation),
                            (lambda: Parser.by(one, two, kind=three), InvalidGrammar),
                            (lambda: Parser.by(ELSE, two, kind=three), InvalidLevels),
                            (lambda: Levels().prefers(one, two, three), InvalidGrammar)):
                        with self.assertRaises(error):
                            call()
                    with self.assertRaises(UnknownName) as caught:
                        Levels().prefers(NEST, two, three)
                    self.assertIs(caught.exception.wanted, two)


class TestKindsOfResults(unittest.TestCase):
    def test_rows_are_tuples_of_strings(self):
        for grammar in (SUMS, ELSE, NEST, PAIRS):
            rows = [grammar.names, grammar.terminals, grammar.nonterminals, grammar.lines]
            for each in grammar.nonterminals:
                rows += [grammar.of(each), grammar.firsts(each), grammar.follows(each), grammar.least(each)]
            for row in rows:
                self.assertIs(type(row), tuple)
                self.assertEqual({type(value) for value in row} - {str}, set())

    def test_ascending_rows(self):
        for grammar in (SUMS, ELSE, NEST, PAIRS):
            rows = [grammar.terminals, grammar.nonterminals]
            for each in grammar.nonterminals:
                rows += [grammar.firsts(each), grammar.follows(each)]
            for row in rows:
                self.assertEqual(row, tuple(sorted(set(row))))

    def test_constants_are_integers(self):
        for value in (symbols.MAX_LETTERS, symbols.MAX_TEXT, grammars.MAX_PRODUCTIONS, grammars.MAX_BODY,
                      grammars.MAX_NONTERMINALS, grammars.MAX_TERMINALS):
            self.assertIs(type(value), int)


if __name__ == "__main__":
    unittest.main()
