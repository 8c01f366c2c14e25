"""The examples that the document prints for errors, symbols and grammars."""

import unittest

from chosentrees.base.grammars import Grammar, renamed
from chosentrees.base.symbols import (END, is_before, is_name, is_nonterminal, is_terminal, read_terminals,
                                      write_terminals)
from chosentrees.errors import InvalidGrammar

SUMS = Grammar.from_lines("num: E -> n", "plus: E -> E + E", "times: E -> E * E", "neg: E -> - E")
ELSE = Grammar.from_lines("cond: S -> if S", "both: S -> if S else S", "act: S -> x")
NEST = Grammar.from_lines("push: S -> A S b", "base: S -> c", "none: A ->")
PAIRS = Grammar.from_lines("one: S -> a A a", "two: S -> b A b", "three: S -> a B b", "four: S -> b B a", "ca: A -> c", "cb: B -> c")


class TestExamples(unittest.TestCase):
    def test_symbols(self):
        self.assertEqual(
            [is_terminal("else"), is_terminal("+"), is_terminal("++"), is_nonterminal("Expr"), is_name("plus"), is_terminal(END), is_name("shift")],
            [True, True, False, True, True, False, False])

    def test_rows(self):
        self.assertEqual(
            [write_terminals(("n", "+", "n")), read_terminals("if x else x"), read_terminals(""), is_before(("x",), ("a", "a")), is_before(("b",), ("a",))],
            ['n + n', ('if', 'x', 'else', 'x'), (), True, False])

    def test_grammars(self):
        self.assertEqual(
            [str(SUMS), SUMS.start, SUMS.terminals, SUMS["neg"], SUMS.of("E"), ("neg", "E", ("-", "E")) in SUMS],
            ['grammar of 4 productions', 'E', ('*', '+', '-', 'n'), ('neg', 'E', ('-', 'E')), ('num', 'plus', 'times', 'neg'), True])

    def test_what_nonterminals_lead_to(self):
        self.assertEqual(
            [SUMS.firsts("E"), SUMS.follows("E"), SUMS.least("E"), NEST.firsts("A"), NEST.firsts("S"), NEST.follows("A")],
            [('-', 'n'), ('$', '*', '+'), ('n',), ('',), ('c',), ('c',)])

    def test_other_grammars(self):
        self.assertEqual(
            [(SUMS - "neg").lines, (SUMS - "neg").is_part_of(SUMS), renamed(ELSE, symbols={"S": "Stmt"}, names={"act": "step"}).lines[2]],
            [('num: E -> n', 'plus: E -> E + E', 'times: E -> E * E'), True, 'step: Stmt -> x'])

    def test_no_grammar(self):
        with self.assertRaises(InvalidGrammar):
            SUMS - "num"

    def test_the_printed_grammars(self):
        self.assertEqual(SUMS.productions, (("num", "E", ("n",)), ("plus", "E", ("E", "+", "E")),
                                            ("times", "E", ("E", "*", "E")), ("neg", "E", ("-", "E"))))
        self.assertEqual(ELSE.productions, (("cond", "S", ("if", "S")), ("both", "S", ("if", "S", "else", "S")),
                                            ("act", "S", ("x",))))
        self.assertEqual(NEST.productions, (("push", "S", ("A", "S", "b")), ("base", "S", ("c",)), ("none", "A", ())))
        self.assertEqual(PAIRS.productions, (("one", "S", ("a", "A", "a")), ("two", "S", ("b", "A", "b")),
                                             ("three", "S", ("a", "B", "b")), ("four", "S", ("b", "B", "a")),
                                             ("ca", "A", ("c",)), ("cb", "B", ("c",))))

    def test_the_printed_lines(self):
        self.assertEqual(SUMS.lines[1], "plus: E -> E + E")
        self.assertEqual(NEST.lines[2], "none: A ->")


if __name__ == "__main__":
    unittest.main()
