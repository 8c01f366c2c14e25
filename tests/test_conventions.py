"""What holds for all functions alike [0.1] to [0.6]."""

import unittest

from chosentrees import errors
from chosentrees.base import grammars, symbols
from chosentrees.base.grammars import Grammar, renamed
from chosentrees.errors import InvalidGrammar, InvalidOperation, InvalidText, ParseError, TooMany, UnknownName

from samples import ELSE, NEST, ODD, PAIRS, SUMS


class TestJudges(unittest.TestCase):
    def test_they_return_booleans_for_all_values(self):
        judges = [symbols.is_terminal, symbols.is_nonterminal, symbols.is_name, symbols.is_terminals, SUMS.is_part_of]
        for judge in judges:
            for value in ODD + ["", "a", "E", "+", "$", (), ("a",), SUMS, ELSE, SUMS.productions]:
                self.assertIn(type(judge(value)), (bool,))

    def test_true_is_not_one(self):
        self.assertIs(symbols.is_terminal(True), False)
        self.assertIs(symbols.is_terminals((True,)), False)
        self.assertIs(symbols.is_name(False), False)
        self.assertIs(symbols.is_nonterminal(True), False)


class TestStates(unittest.TestCase):
    def test_equal_calls_return_equal_results(self):
        for grammar in (SUMS, ELSE, NEST, PAIRS):
            for each in grammar.nonterminals:
                for method in (grammar.of, grammar.firsts, grammar.follows, grammar.least):
                    self.assertEqual(method(each), method(each))
            self.assertEqual((grammar.productions, grammar.names, grammar.lines, grammar.terminals, list(grammar)),
                             (grammar.productions, grammar.names, grammar.lines, grammar.terminals, list(grammar)))

    def test_signs_leave_grammars_as_they_are(self):
        before = SUMS.lines
        same = Grammar(SUMS.productions)
        results = [SUMS + ("par", "E", ("(", "E", ")")), SUMS - "neg", SUMS | (SUMS - "neg"), renamed(SUMS)]
        self.assertEqual((SUMS.lines, SUMS.terminals, SUMS.nonterminals), (before, ("*", "+", "-", "n"), ("E",)))
        self.assertEqual((SUMS.follows("E"), SUMS.firsts("E"), SUMS.least("E")), (("$", "*", "+"), ("-", "n"), ("n",)))
        self.assertEqual(SUMS, same)
        self.assertEqual([each.terminals for each in results], [("(", ")", "*", "+", "-", "n"), ("*", "+", "n"),
                                                                ("*", "+", "-", "n"), ("*", "+", "-", "n")])

    def test_signs_with_assignment_make_new_grammars(self):
        made = kept = ELSE
        made += ("loop", "S", ("while", "S"))
        self.assertEqual((len(made), len(kept)), (4, 3))
        made -= "loop"
        self.assertEqual((made, len(kept)), (ELSE, 3))
        made |= Grammar.from_lines("more: S -> y")
        self.assertEqual((len(made), len(kept)), (4, 3))

    def test_errors_have_no_effect(self):
        for wrong in ODD:
            for call in (SUMS.of, SUMS.__getitem__, SUMS.__add__, SUMS.__sub__, SUMS.least, SUMS.firsts, SUMS.follows):
                with self.assertRaises((UnknownName, InvalidOperation)):
                    call(wrong)
        self.assertEqual(SUMS, Grammar.from_lines("num: E -> n", "plus: E -> E + E", "times: E -> E * E",
                                                  "neg: E -> - E"))

    def test_errors_are_not_iterable(self):
        for made in (ParseError(3), TooMany(60), UnknownName("E"), InvalidGrammar("no"), errors.Refused(("lost", ()))):
            with self.assertRaises(TypeError):
                iter(made)


class TestWhichErrorComesFirst(unittest.TestCase):
    def test_unknown_names_before_too_many(self):
        grammar = Grammar.from_lines("a: S -> A A A A A", "b: A -> B B B", "c: B -> x x x x x")
        for wrong in ("C", "x", None, ("S",)):
            with self.assertRaises(UnknownName):
                grammar.least(wrong)
        with self.assertRaises(TooMany):
            grammar.least("S")

    def test_productions_before_grammars(self):
        full = Grammar(tuple((name, "S", tuple(name)) for name in "a b ab ba aa bb aaa bbb aab abb aba bab bba baa aaaa "
                             "bbbb".split(" ")))
        self.assertEqual(len(full), 16)
        with self.assertRaises(InvalidOperation):
            full + ("abab", "S", ["a"])
        with self.assertRaises(InvalidGrammar):
            full + ("abab", "S", ("b", "a", "b", "a"))

    def test_names_before_grammars(self):
        one = Grammar.from_lines("one: S -> x")
        with self.assertRaises(UnknownName):
            one - "two"
        with self.assertRaises(InvalidGrammar):
            one - "one"

    def test_both_texts_wrong(self):
        for one, other in ((("a",) * 61, ["a"]), (True, None), ("a", ("$",))):
            with self.assertRaises(InvalidText):
                symbols.is_before(one, other)

    def test_lines_before_grammars(self):
        with self.assertRaises(ParseError) as caught:
            Grammar.from_lines("a: S -> S", "a: S -> S", "a: S -> S ", True)
        self.assertEqual(caught.exception.line, 2)

    def test_renamed(self):
        for wrong in ({"symbols": 1}, {"names": 1}, {"symbols": {"q": "r"}, "names": True}):
            with self.assertRaises(InvalidGrammar):
                renamed("SUMS", **wrong)
            with self.assertRaises(InvalidOperation):
                renamed(SUMS, **wrong)


class TestKindsOfResults(unittest.TestCase):
    def test_rows_are_tuples_of_strings(self):
        for grammar in (SUMS, ELSE, NEST, PAIRS):
            rows = [grammar.names, grammar.terminals, grammar.nonterminals, grammar.lines]
            for each in grammar.nonterminals:
                rows += [grammar.of(each), grammar.firsts(each), grammar.follows(each), grammar.least(each)]
            for row in rows:
                self.assertIs(type(row), tuple)
                self.assertEqual({type(value) for value in row} - {str}, set())

    def test_ascending_rows(self):
        for grammar in (SUMS, ELSE, NEST, PAIRS):
            rows = [grammar.terminals, grammar.nonterminals]
            for each in grammar.nonterminals:
                rows += [grammar.firsts(each), grammar.follows(each)]
            for row in rows:
                self.assertEqual(row, tuple(sorted(set(row))))

    def test_constants_are_integers(self):
        for value in (symbols.MAX_LETTERS, symbols.MAX_TEXT, grammars.MAX_PRODUCTIONS, grammars.MAX_BODY,
                      grammars.MAX_NONTERMINALS, grammars.MAX_TERMINALS):
            self.assertIs(type(value), int)


if __name__ == "__main__":
    unittest.main()
