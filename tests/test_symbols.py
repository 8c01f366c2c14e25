"""Terminals, nonterminals, names, and rows of terminals [0.7] [0.9]."""

import unittest

from chosentrees.base import symbols
from chosentrees.base.symbols import (END, MAX_LETTERS, MAX_TEXT, SIGNS, is_before, is_name, is_nonterminal,
                                      is_terminal, is_terminals, read_terminals, write_terminals)
from chosentrees.errors import InvalidText, ParseError

from samples import LARGE, ODD, PRINTABLE, SIGN_LIST, SMALL, nested

WRONG_TEXTS = [value for value in ODD if not isinstance(value, str)] + [
    "", "a", "n + n", ["n", "+"], ("a",) * 61, ("+",) * 61, ("a", ""), ("$",), ("n", "$"), ("E",), ("a", "E"),
    ("a b",), ("a\n",), ("a\t",), (" a",), ("++",), ("abcdefghi",), ("a", True), ("a", None), ("a", 1), ("a", ("b",)),
    ("a", ["b"]), ("1",), ("A",), ({"a": "a"},), nested(40, ("a",)), ("x" * 9000,), ("a",) * 60 + ("$",)]


class TestConstants(unittest.TestCase):
    def test_values(self):
        self.assertEqual(END, "$")
        self.assertEqual(SIGNS, "!&()*+,-./:;<=>?[]^|")
        self.assertEqual((MAX_LETTERS, MAX_TEXT), (8, 60))
        self.assertIsInstance(MAX_LETTERS, int)

    def test_signs_are_those_of_the_document(self):
        self.assertEqual(sorted(SIGN_LIST), list(SIGNS))


class TestTerminals(unittest.TestCase):
    def test_words_of_one_to_eight_letters(self):
        for length in range(1, 9):
            self.assertIs(is_terminal("z" * length), True)
        for word in ("else", "abcdefgh", "ijklmnop", "qrstuvwx", "yz", "a", "z"):
            self.assertIs(is_terminal(word), True, word)

    def test_words_of_other_lengths(self):
        for length in (0, 9, 10, 16, 9000):
            self.assertIs(is_terminal("z" * length), False, length)

    def test_each_character_alone(self):
        for sign in PRINTABLE + ["\n", "\t"]:
            self.assertIs(is_terminal(sign), sign in SIGN_LIST or sign in SMALL, repr(sign))

    def test_two_signs_or_mixed(self):
        for value in ("++", "()", "!&", "[]", "^|", "->", "a+", "+a", "a-b", "+ ", " +", "+\n", "-\t"):
            self.assertIs(is_terminal(value), False, value)

    def test_each_bad_character_within_a_word(self):
        for sign in PRINTABLE + ["\n", "\t"]:
            if sign not in SMALL:
                for value in (sign + "a", "a" + sign, "a" + sign + "b", "abcdefg" + sign):
                    self.assertIs(is_terminal(value), False, repr(value))

    def test_actions_are_terminals_but_the_end_is_none(self):
        self.assertIs(is_terminal("shift"), True)
        self.assertIs(is_terminal("accept"), True)
        self.assertIs(is_terminal("$"), False)
        self.assertIs(is_terminal("E"), False)

    def test_odd_values(self):
        for value in ODD + ["$", "", ("a",), ["a"]]:
            self.assertIs(is_terminal(value), False, repr(value)[:80])


class TestNonterminals(unittest.TestCase):
    def test_one_to_six_letters(self):
        for value in ("A", "Z", "S", "Expr", "Stmt", "Abcdef", "Zzzzzz", "Qa"):
            self.assertIs(is_nonterminal(value), True, value)
        for first in LARGE:
            self.assertIs(is_nonterminal(first), True)
        for letter in SMALL:
            self.assertIs(is_nonterminal("M" + letter), True)

    def test_other_lengths(self):
        for value in ("", "Abcdefg", "Abcdefgh", "A" + "b" * 8999):
            self.assertIs(is_nonterminal(value), False, value[:20])

    def test_each_character_alone(self):
        for sign in PRINTABLE + ["\n", "\t"]:
            self.assertIs(is_nonterminal(sign), sign in LARGE, repr(sign))

    def test_each_bad_character_behind(self):
        for sign in PRINTABLE + ["\n", "\t"]:
            if sign not in SMALL:
                for value in ("A" + sign, "A" + sign + "a", "Aa" + sign, "Abcde" + sign, sign + "Aa"):
                    self.assertIs(is_nonterminal(value), False, repr(value))

    def test_small_letter_ahead(self):
        for value in ("a", "aA", "expr", "aBC"):
            self.assertIs(is_nonterminal(value), False, value)

    def test_odd_values(self):
        for value in ODD + ["$", "+", ("E",), ["E"]]:
            self.assertIs(is_nonterminal(value), False, repr(value)[:80])


class TestNames(unittest.TestCase):
    def test_one_to_eight_letters(self):
        for value in ("a", "z", "plus", "abcdefgh", "shifts", "accepts", "shif", "accep", "shiftt", "end"):
            self.assertIs(is_name(value), True, value)

    def test_other_lengths(self):
        for value in ("", "abcdefghi", "a" * 9000):
            self.assertIs(is_name(value), False, value[:20])

    def test_shift_accept_and_end(self):
        for value in ("shift", "accept", "$"):
            self.assertIs(is_name(value), False, value)

    def test_each_character_alone_and_behind(self):
        for sign in PRINTABLE + ["\n", "\t"]:
            self.assertIs(is_name(sign), sign in SMALL, repr(sign))
            self.assertIs(is_name("a" + sign), sign in SMALL, repr(sign))

    def test_odd_values(self):
        for value in ODD + ["+", "E", "shift\n", ("plus",), ["plus"]]:
            self.assertIs(is_name(value), False, repr(value)[:80])


class TestTerminalRows(unittest.TestCase):
    def test_rows(self):
        for value in ((), ("a",), ("a",) * 59, ("a",) * 60, tuple(SIGNS), ("if", "x", "else"), ("shift", "accept"),
                      ("abcdefgh",) * 60):
            self.assertIs(is_terminals(value), True)

    def test_other_values(self):
        for value in WRONG_TEXTS + ODD:
            self.assertIs(is_terminals(value), False, repr(value)[:80])

    def test_a_wrong_one_anywhere(self):
        for at in (0, 1, 30, 59):
            for wrong in ("$", "E", "", True, None, ("a",), "a b", "abcdefghi"):
                value = ("a",) * at + (wrong,) + ("a",) * (59 - at)
                self.assertIs(is_terminals(value), False)


class TestIsBefore(unittest.TestCase):
    def test_fewer_terminals_come_first(self):
        self.assertIs(is_before(("x",), ("a", "a")), True)
        self.assertIs(is_before(("a", "a"), ("x",)), False)
        self.assertIs(is_before((), ("a",)), True)
        self.assertIs(is_before(("a",), ()), False)
        self.assertIs(is_before(("z",) * 59, ("a",) * 60), True)
        self.assertIs(is_before(("a",) * 60, ("z",) * 59), False)
        self.assertIs(is_before(("abcdefgh", "abcdefgh"), ("a", "a", "a")), True)

    def test_as_many_in_the_order_of_python(self):
        self.assertIs(is_before(("a",), ("b",)), True)
        self.assertIs(is_before(("b",), ("a",)), False)
        self.assertIs(is_before(("a", "b"), ("b", "a")), True)
        self.assertIs(is_before(("a", "c"), ("a", "b")), False)
        self.assertIs(is_before(("aa",), ("b",)), True)
        self.assertIs(is_before(("a", "z"), ("aa", "a")), True)
        self.assertIs(is_before(("|",), ("z",)), False)
        self.assertIs(is_before(("z",), ("|",)), True)
        self.assertIs(is_before(("!",), ("&",)), True)
        self.assertIs(is_before(("a",) * 60, ("a",) * 59 + ("b",)), True)

    def test_equal_ones(self):
        for text in ((), ("a",), ("n", "+", "n"), ("a",) * 60):
            self.assertIs(is_before(text, text), False)
            self.assertIs(is_before(text, tuple(list(text))), False)

    def test_wrong_arguments(self):
        for wrong in WRONG_TEXTS + ODD:
            for one, other in ((wrong, ("a",)), (("a",), wrong), (wrong, wrong), (wrong, ()), ((), wrong)):
                with self.assertRaises(InvalidText, msg=repr(wrong)[:80]):
                    is_before(one, other)


class TestWrittenTerminals(unittest.TestCase):
    def test_writing(self):
        self.assertEqual(write_terminals(()), "")
        self.assertEqual(write_terminals(("n",)), "n")
        self.assertEqual(write_terminals(("n", "+", "n")), "n + n")
        self.assertEqual(write_terminals(tuple(SIGNS)), "! & ( ) * + , - . / : ; < = > ? [ ] ^ |")
        self.assertEqual(write_terminals(("abcdefgh",) * 60), " ".join(["abcdefgh"] * 60))

    def test_reading(self):
        self.assertEqual(read_terminals(""), ())
        self.assertEqual(read_terminals("n"), ("n",))
        self.assertEqual(read_terminals("if x else x"), ("if", "x", "else", "x"))
        self.assertEqual(read_terminals("! & ( ) * + , - . / : ; < = > ? [ ] ^ |"), tuple(SIGNS))
        self.assertEqual(read_terminals(" ".join(["abcdefgh"] * 60)), ("abcdefgh",) * 60)
        self.assertEqual(read_terminals("shift accept"), ("shift", "accept"))
        self.assertIsInstance(read_terminals("a b"), tuple)

    def test_what_is_written_is_read(self):
        for text in ((), ("a",), ("+",), ("a", "+", "b", "(", ")"), ("a",) * 60, tuple(SIGNS) * 3):
            self.assertEqual(read_terminals(write_terminals(text)), text)

    def test_writing_wrong_values(self):
        for wrong in WRONG_TEXTS + ODD:
            with self.assertRaises(InvalidText, msg=repr(wrong)[:80]):
                write_terminals(wrong)

    def test_reading_wrong_lines(self):
        lines = [" ", "  ", " a", "a ", "a  b", "a b ", " a b", "a\tb", "a\nb", "a\n", "\na", "\t", "\n", "a \n b", "$",
                 "a $", "E", "a E", "ab+", "++", "abcdefghi", "a abcdefghi", "A", "1", "a 1", "a,b", "()",
                 " ".join(["a"] * 61), " ".join(["a"] * 60) + " ", "a" * 9000, "a " * 4500, "aB", '"a"', "a\\", "%"]
        for wrong in lines + ODD + [(), ("a",), ["a"]]:
            with self.assertRaises(ParseError, msg=repr(wrong)[:80]) as caught:
                read_terminals(wrong)
            self.assertIsNone(caught.exception.line)

    def test_functions_are_defined_here(self):
        for name in ("is_terminal", "is_nonterminal", "is_name", "is_terminals", "is_before", "write_terminals",
                     "read_terminals"):
            self.assertEqual(getattr(symbols, name).__module__, "chosentrees.base.symbols")


if __name__ == "__main__":
    unittest.main()
