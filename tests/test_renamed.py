"""Grammars with other symbols and names."""

import unittest

from chosentrees.base.grammars import Grammar, renamed
from chosentrees.errors import InvalidGrammar, InvalidOperation

from samples import ELSE, NEST, ODD, ODD_KEYS, PAIRS, SIGN_LIST, SUMS, nested


class TestRenamed(unittest.TestCase):
    def test_symbols(self):
        made = renamed(ELSE, symbols={"S": "Stmt", "if": "when", "x": "."})
        self.assertEqual(made.lines, ("cond: Stmt -> when Stmt", "both: Stmt -> when Stmt else Stmt", "act: Stmt -> ."))
        self.assertEqual((made.start, made.terminals), ("Stmt", (".", "else", "when")))

    def test_names(self):
        made = renamed(ELSE, names={"act": "step", "cond": "if"})
        self.assertEqual(made.lines, ("if: S -> if S", "both: S -> if S else S", "step: S -> x"))

    def test_both(self):
        made = renamed(SUMS, symbols={"E": "Expr", "n": "num"}, names={"num": "n", "neg": "abcdefgh"})
        self.assertEqual(made.lines, ("n: Expr -> num", "plus: Expr -> Expr + Expr", "times: Expr -> Expr * Expr",
                                      "abcdefgh: Expr -> - Expr"))

    def test_nothing(self):
        for grammar in (SUMS, ELSE, NEST, PAIRS):
            for made in (renamed(grammar), renamed(grammar, symbols=None, names=None), renamed(grammar, symbols={}),
                         renamed(grammar, names={}), renamed(grammar, symbols={}, names=None)):
                self.assertEqual(made, grammar)
                self.assertIsInstance(made, Grammar)

    def test_to_themselves(self):
        self.assertEqual(renamed(SUMS, symbols={"E": "E", "n": "n", "+": "+"}, names={"num": "num"}), SUMS)

    def test_exchanges(self):
        made = renamed(SUMS, symbols={"+": "*", "*": "+"}, names={"plus": "times", "times": "plus"})
        self.assertEqual(made.lines, ("num: E -> n", "times: E -> E * E", "plus: E -> E + E", "neg: E -> - E"))
        made = renamed(PAIRS, symbols={"A": "B", "B": "A"}, names={"ca": "cb", "cb": "ca"})
        self.assertEqual(made.lines, ("one: S -> a B a", "two: S -> b B b", "three: S -> a A b", "four: S -> b A a",
                                      "cb: B -> c", "ca: A -> c"))
        made = renamed(PAIRS, symbols={"a": "b", "b": "c", "c": "a", "S": "A", "A": "B", "B": "S"})
        self.assertEqual(made.lines[0], "one: A -> b B b")
        self.assertEqual(made.lines[4:], ("ca: B -> a", "cb: S -> a"))

    def test_to_what_another_one_leaves(self):
        made = renamed(SUMS, symbols={"+": "*", "*": "/"}, names={"plus": "times", "times": "more"})
        self.assertEqual(made.lines, ("num: E -> n", "times: E -> E * E", "more: E -> E / E", "neg: E -> - E"))

    def test_the_order_of_the_dict_does_not_matter(self):
        one = {"+": "*", "*": "/", "E": "F"}
        other = {"E": "F", "*": "/", "+": "*"}
        self.assertEqual(renamed(SUMS, symbols=one), renamed(SUMS, symbols=other))

    def test_terminals_that_are_like_names(self):
        made = renamed(SUMS, symbols={"n": "shift", "+": "accept", "*": "plus"})
        self.assertEqual(made.terminals, ("-", "accept", "plus", "shift"))

    def test_each_sign(self):
        for sign in SIGN_LIST:
            if sign not in "+*-":
                self.assertEqual(renamed(SUMS, symbols={"n": sign})["num"], ("num", "E", (sign,)))

    def test_arguments_stay(self):
        symbols, names = {"+": "*", "*": "+"}, {"num": "n"}
        lines = SUMS.lines
        made = renamed(SUMS, symbols=symbols, names=names)
        self.assertEqual((symbols, names, SUMS.lines), ({"+": "*", "*": "+"}, {"num": "n"}, lines))
        symbols["+"] = "/"
        names.clear()
        self.assertEqual(made.lines, ("n: E -> n", "plus: E -> E * E", "times: E -> E + E", "neg: E -> - E"))

    def test_the_keywords_are_keywords(self):
        with self.assertRaises(TypeError):
            renamed(SUMS, {})


class TestWrongArguments(unittest.TestCase):
    def assert_refused(self, **wrong):
        with self.assertRaises(InvalidOperation, msg=repr(wrong)[:200]):
            renamed(SUMS, **wrong)

    def test_wrong_grammars(self):
        for wrong in [value for value in ODD if not isinstance(value, Grammar)] + [SUMS.productions, SUMS.lines, "", ()]:
            with self.assertRaises(InvalidGrammar, msg=repr(wrong)[:80]):
                renamed(wrong)

    def test_no_dicts(self):
        for wrong in [True, False, 0, 1, 10 ** 99, "", "n", "x" * 9000, (), [], ("n", "m"), (("n", "m"),), [("n", "m")],
                      [["n", "m"]], SUMS, nested(49), "{}", ("n",), (("num", "n"),)]:
            self.assert_refused(symbols=wrong)
            self.assert_refused(names=wrong)

    def test_wrong_keys(self):
        for key in ODD_KEYS:
            self.assert_refused(symbols={key: "q"})
            self.assert_refused(symbols={key: "Q"})
            self.assert_refused(symbols={key: key})
            self.assert_refused(symbols={"n": "m", key: "q"})
            self.assert_refused(names={key: "q"})
            self.assert_refused(names={key: key})
            self.assert_refused(names={"num": "n", key: "q"})

    def test_keys_of_others(self):
        for key in ("x", "a", "/", "abcdefgh", "num", "plus"):
            self.assert_refused(symbols={key: "q"})
            self.assert_refused(symbols={key: key})
        for key in ("S", "F", "Expr"):
            self.assert_refused(symbols={key: "Q"})
            self.assert_refused(symbols={key: key})
        for key in ("E", "n", "+", "cond", "shift", "accept", "$", "nums", "Num"):
            self.assert_refused(names={key: "q"})
            self.assert_refused(names={key: key})

    def test_wrong_values(self):
        for value in ODD + ["", "$", "Q", "Abcdefg", "++", "abcdefghi", "q ", (), ("q",), ["q"], {"q": "q"}]:
            self.assert_refused(symbols={"n": value})
            self.assert_refused(symbols={"+": "/", "n": value})
        for value in ODD + ["", "$", "q", "+", "n", "Abcdefg", "EE", "Q ", (), ("Q",), ["Q"], "q1"]:
            self.assert_refused(symbols={"E": value})
        for value in ODD + ["", "$", "shift", "accept", "abcdefghi", "Q", "+", "q:", (), ("q",), ["q"], {"q": "q"}]:
            self.assert_refused(names={"num": value})
            self.assert_refused(names={"plus": "sum", "num": value})

    def test_two_that_would_be_equal(self):
        self.assert_refused(symbols={"n": "+"})
        self.assert_refused(symbols={"n": "q", "+": "q"})
        self.assert_refused(symbols={"+": "*", "*": "-"})
        self.assert_refused(names={"num": "plus"})
        self.assert_refused(names={"num": "q", "plus": "q"})
        self.assert_refused(names={"num": "plus", "plus": "times"})
        with self.assertRaises(InvalidOperation):
            renamed(PAIRS, symbols={"A": "B"})
        with self.assertRaises(InvalidOperation):
            renamed(PAIRS, symbols={"A": "Q", "B": "Q"})
        with self.assertRaises(InvalidOperation):
            renamed(PAIRS, symbols={"A": "S"})
        with self.assertRaises(InvalidOperation):
            renamed(PAIRS, symbols={"S": "B", "B": "A"})

    def test_equal_to_one_that_stays(self):
        self.assert_refused(symbols={"n": "+", "+": "+"})
        self.assert_refused(names={"num": "neg", "neg": "neg"})

    def test_two_wrong_arguments(self):
        for wrong in (7, None, SUMS.productions):
            with self.assertRaises(InvalidGrammar):
                renamed(wrong, symbols=7)
            with self.assertRaises(InvalidGrammar):
                renamed(wrong, names=7)
            with self.assertRaises(InvalidGrammar):
                renamed(wrong, symbols={"n": 1}, names={1: "n"})
        self.assert_refused(symbols={"n": "m"}, names={"num": "plus"})
        self.assert_refused(symbols={"n": "+"}, names={"num": "n"})
        self.assert_refused(symbols=7, names=7)


if __name__ == "__main__":
    unittest.main()
