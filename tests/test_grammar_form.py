"""Which productions make a grammar, and which do not [0.8] [0.10]."""

import unittest

from chosentrees.base import grammars
from chosentrees.base.grammars import Grammar
from chosentrees.errors import InvalidGrammar, ParseError

from samples import LARGE, ODD, PAIRS, SIGN_LIST, SMALL, SUMS, nested, nested_list


def lines_of(many, ending=""):
    """Lines of so many productions of S with different names and bodies of two terminals, and one more body."""
    return tuple(f"n{SMALL[at]}: S -> {SMALL[at // 4]} {SMALL[at % 4]}{ending}" for at in range(many))


def chain_of(heads, last="x"):
    """Lines of productions that lead from each head to the next one."""
    found = [f"p{SMALL[at]}: {head} -> {SMALL[at % 4]} {heads[at + 1]}" for at, head in enumerate(heads[:-1])]
    return tuple(found) + (f"last: {heads[-1]} -> {last}",)


class GrammarCase(unittest.TestCase):
    def assert_grammar(self, *lines):
        self.assertEqual(Grammar.from_lines(*lines).lines, lines)

    def assert_none(self, *lines):
        """The lines are productions, and they are no grammar."""
        with self.assertRaises(InvalidGrammar, msg=lines):
            Grammar.from_lines(*lines)


class TestConstants(unittest.TestCase):
    def test_values(self):
        self.assertEqual(grammars.MAX_PRODUCTIONS, 16)
        self.assertEqual(grammars.MAX_BODY, 5)
        self.assertEqual(grammars.MAX_NONTERMINALS, 6)
        self.assertEqual(grammars.MAX_TERMINALS, 10)

    def test_class_and_function_are_defined_here(self):
        self.assertEqual(Grammar.__module__, "chosentrees.base.grammars")
        self.assertEqual(grammars.renamed.__module__, "chosentrees.base.grammars")


class TestProductions(unittest.TestCase):
    def assert_no_production(self, value):
        for productions in ((value,), (value, ("act", "S", ("x",))), (("act", "S", ("x",)), value),
                            (("act", "S", ("x",)), ("more", "S", ("y",)), value)):
            with self.assertRaises(InvalidGrammar, msg=repr(value)[:80]):
                Grammar(productions)

    def test_ordinary_ones(self):
        productions = (("num", "E", ("n",)), ("plus", "E", ("E", "+", "E")))
        self.assertEqual(Grammar(productions).productions, productions)

    def test_odd_values_in_the_place_of_productions(self):
        for value in ODD + [(), "", "num: E -> n", SUMS]:
            with self.assertRaises(InvalidGrammar, msg=repr(value)[:80]):
                Grammar(value)

    def test_other_rows_of_productions(self):
        one = ("num", "E", ("n",))
        for value in ([one], {one: one}, {"num": one}, one, (one, [one]), ((one,),), list(SUMS.productions),
                      nested(40, one), {0: one}, (one, ("plus", "E", ("E", "+", "E")), SUMS)):
            with self.assertRaises(InvalidGrammar, msg=repr(value)[:80]):
                Grammar(value)

    def test_odd_values_in_the_place_of_one(self):
        for value in ODD + [(), "num: E -> n", "", ("num", "E"), ("num",), ("num", "E", ("n",), ()),
                            ["num", "E", ("n",)], {"num": "E"}, (("num", "E", ("n",)),), SUMS.productions]:
            self.assert_no_production(value)

    def test_names(self):
        for name in ("a", "z", "abcdefgh", "shifts", "end"):
            self.assertEqual(Grammar(((name, "S", ("x",)),)).names, (name,))
        for name in ODD + ["", "shift", "accept", "$", "abcdefghi", "Abc", "S", "+", ":", ("num",), ["num"], "a:"]:
            self.assert_no_production((name, "S", ("q",)))

    def test_heads(self):
        for head in ("A", "Z", "Abcdef", "Stmt"):
            self.assertEqual(Grammar((("num", head, ("x",)),)).start, head)
        for head in ODD + ["", "$", "s", "x", "+", "Abcdefg", "AB", "aS", ("S",), ["S"], "S ", "S\n"]:
            self.assert_no_production(("num", head, ("q",)))

    def test_bodies_of_none_to_five_symbols(self):
        for many in range(6):
            body = ("x",) * many
            self.assertEqual(Grammar((("num", "S", body),)).productions, (("num", "S", body),))

    def test_bodies_of_six_symbols_and_more(self):
        for many in (6, 7, 100):
            self.assert_no_production(("num", "S", ("x",) * many))
        self.assert_no_production(("num", "S", ("a", "b", "c", "d", "e", "f")))

    def test_bodies_of_other_kinds(self):
        for body in [None, True, False, 0, 10 ** 99, "x", "", "q q", ["q"], [], {}, {"q": "q"}, SUMS,
                     nested_list(40), ParseError(0)]:
            self.assert_no_production(("num", "S", body))

    def test_symbols_in_bodies(self):
        for sign in SIGN_LIST:
            self.assertEqual(Grammar((("num", "S", (sign,)),)).terminals, (sign,))
        for word in ("a", "abcdefgh", "shift", "accept"):
            self.assertEqual(Grammar((("num", "S", (word,)),)).terminals, (word,))
        for symbol in ODD + ["", "$", "abcdefghi", "Abcdefg", "++", ("q",), ["q"], (), "q q", "#", "aB", "AB"]:
            for body in ((symbol,), ("q", symbol), (symbol, "q"), ("q", "q", "q", "q", symbol)):
                self.assert_no_production(("num", "S", body))


class TestSizes(GrammarCase):
    def test_one_production(self):
        self.assert_grammar("one: S -> x")
        self.assert_grammar("one: S ->")

    def test_none(self):
        with self.assertRaises(InvalidGrammar):
            Grammar(())
        with self.assertRaises(InvalidGrammar):
            Grammar.from_lines()

    def test_sixteen_and_seventeen(self):
        self.assert_grammar(*lines_of(15))
        self.assert_grammar(*lines_of(16))
        self.assert_none(*lines_of(16), "more: S -> x")
        self.assert_none(*lines_of(16), "more: S ->")
        self.assert_none(*lines_of(16, " a"), *(line.replace("n", "m", 1) for line in lines_of(16, " b")))

    def test_six_and_seven_nonterminals(self):
        self.assert_grammar(*chain_of("STUVWX"))
        self.assert_none(*chain_of("STUVWXY"))
        self.assert_none(*chain_of("ABCDEFGH"))
        self.assert_grammar(*chain_of(("Aa", "Ab", "Ac", "Ad", "Ae", "Af")))

    def test_six_nonterminals_at_once(self):
        heads = tuple(f"n{letter.lower()}: {letter} -> x" for letter in "ABCDE")
        self.assert_grammar("all: S -> A B C D E", *heads)
        self.assert_none("all: S -> A B C D E", "more: S -> F", *heads, "nf: F -> x")

    def test_ten_and_eleven_terminals(self):
        nine = ("one: S -> a b c d e", "two: S -> f g h i")
        self.assert_grammar(*nine)
        self.assert_grammar(*nine, "three: S -> j")
        self.assert_grammar(*nine, "three: S -> + a +")
        self.assert_none(*nine, "three: S -> j k")
        self.assert_none(*nine, "three: S -> + -")
        self.assert_none("one: S -> a b c d e", "two: S -> f g h i j", "three: S -> ( a")

    def test_terminals_in_several_nonterminals_count_once(self):
        self.assert_grammar("one: S -> a b c d A", "two: A -> a b c d e", "three: A -> f g h i j", "four: S -> j a")
        self.assert_none("one: S -> a b c d A", "two: A -> a b c d e", "three: A -> f g h i j", "four: S -> k a")


class TestDifferentProductions(GrammarCase):
    def test_doubled_names(self):
        self.assert_none("one: S -> x", "one: S -> y")
        self.assert_none("one: S -> x", "two: S -> y", "one: S -> z")
        self.assert_none("one: S -> A", "two: A -> x", "one: A -> y")

    def test_doubled_heads_with_bodies(self):
        self.assert_none("one: S -> x", "two: S -> x")
        self.assert_none("one: S -> x y", "two: S -> z", "three: S -> x y")
        self.assert_none("one: S ->", "two: S ->")
        self.assert_none("one: S -> A", "two: A -> x", "three: A -> x")

    def test_the_same_production_twice(self):
        self.assert_none("one: S -> x", "one: S -> x")

    def test_equal_bodies_of_different_heads(self):
        self.assert_grammar("one: S -> A B", "two: A -> c", "three: B -> c", "four: S -> c")
        self.assert_grammar("one: S -> A x", "two: A ->", "three: S ->")

    def test_bodies_in_another_order(self):
        self.assert_grammar("one: S -> a b", "two: S -> b a", "three: S -> a", "four: S -> a b a")


class TestTreesOfNonterminals(GrammarCase):
    def test_nonterminals_without_productions(self):
        self.assert_none("one: S -> A")
        self.assert_none("one: S -> x", "two: S -> A")
        self.assert_none("one: S -> x", "two: S -> a A b")

    def test_nonterminals_that_never_end(self):
        self.assert_none("one: S -> S")
        self.assert_none("one: S -> a S")
        self.assert_none("one: S -> a S", "two: S -> S b", "three: S -> S S")
        self.assert_none("one: S -> x", "two: S -> a A", "three: A -> a A b")
        self.assert_none("one: S -> x", "two: S -> a A", "three: A -> a B", "four: B -> A b")
        self.assert_none("one: S -> A B", "two: A -> x", "three: B -> b B")
        self.assert_none("one: S -> x", "two: S -> A S", "three: A -> S A")

    def test_nonterminals_that_end_late(self):
        self.assert_grammar("one: S -> a A", "two: A -> b B", "three: B -> c C", "four: C -> d D", "five: D -> e F",
                            "six: F -> x")
        self.assert_grammar("one: S -> a S", "two: S -> b A", "three: A -> S c", "four: A ->")
        self.assert_grammar("one: S -> a S b", "two: S ->")

    def test_nonterminals_that_are_not_reached(self):
        self.assert_none("one: S -> x", "two: A -> x")
        self.assert_none("one: S -> x", "two: A ->")
        self.assert_none("one: S -> x", "two: A -> a A", "three: A -> x")
        self.assert_none("one: S -> x", "two: A -> S y")
        self.assert_none("one: S -> x", "two: A -> a B", "three: B -> b A", "four: B -> x")
        self.assert_none("one: S -> x A", "two: A -> y", "three: B -> A z")

    def test_the_first_production_tells_the_start(self):
        self.assert_grammar("one: S -> a A", "two: A -> x")
        self.assert_none("two: A -> x", "one: S -> a A")
        self.assert_grammar("two: A -> a S", "three: A -> x", "one: S -> a A")

    def test_nonterminals_that_are_reached_late(self):
        self.assert_grammar(*chain_of("SFEDCB"))
        self.assert_grammar(*(chain_of("SBCDEF")[:1] + chain_of("SBCDEF")[:0:-1]))

    def test_ends_before_use(self):
        self.assert_grammar("one: S -> a A", "two: B -> x", "three: A -> B")


class TestTextsOfNodes(GrammarCase):
    def test_directly(self):
        self.assert_none("one: S -> x", "two: S -> S")
        self.assert_none("one: S -> a A", "two: A -> x", "three: A -> A")
        self.assert_none("one: S ->", "two: S -> S")

    def test_through_others(self):
        self.assert_none("one: S -> A", "two: A -> S", "three: A -> x")
        self.assert_none("one: S -> x", "two: S -> A", "three: A -> B", "four: B -> C", "five: C -> D", "six: D -> E",
                         "seven: E -> S", "eight: E -> y", "nine: B -> S b")
        self.assert_none("one: S -> a A", "two: A -> B", "three: B -> C", "four: C -> A", "five: C -> x")

    def test_through_parts_that_can_be_empty(self):
        self.assert_none("one: S -> x", "two: S -> A S", "three: A ->")
        self.assert_none("one: S -> x", "two: S -> S A", "three: A ->", "four: A -> a")
        self.assert_none("one: S -> x", "two: S -> A S A", "three: A ->")
        self.assert_none("one: S -> x", "two: S -> A B S B A", "three: A ->", "four: B ->", "five: B -> b")
        self.assert_none("one: S -> x", "two: S -> A S", "three: A -> B B", "four: B ->", "five: B -> b")
        self.assert_none("one: S -> x", "two: S -> A S", "three: A -> B C", "four: B -> C C C C C", "five: C ->")

    def test_with_itself_empty(self):
        self.assert_none("one: S ->", "two: S -> S S")
        self.assert_none("one: S ->", "two: S -> a", "three: S -> S S")
        self.assert_none("one: S -> A A", "two: A ->", "three: A -> S")
        self.assert_none("one: S -> A", "two: A -> S S", "three: S ->")
        self.assert_none("one: S -> x A", "two: A ->", "three: A -> A A A A A")

    def test_through_others_and_empty_parts(self):
        self.assert_none("one: S -> A B", "two: A -> x", "three: A -> B S", "four: B ->")
        self.assert_none("one: S -> A B", "two: A ->", "three: B -> S A", "four: B -> x")
        self.assert_none("one: S -> x S y", "two: S -> A", "three: A -> B C", "four: B -> b", "five: B ->",
                         "six: C -> D", "seven: D -> B A", "eight: D -> d", "nine: C -> S c")

    def test_other_parts_that_are_never_empty(self):
        self.assert_grammar("one: S -> x", "two: S -> S S")
        self.assert_grammar("one: S -> x", "two: S -> S a")
        self.assert_grammar("one: S -> x", "two: S -> a S")
        self.assert_grammar("one: S -> x", "two: S -> S A", "three: A -> a")
        self.assert_grammar("one: S -> x", "two: S -> A S", "three: A -> B C", "four: B ->", "five: C -> c")
        self.assert_grammar("push: S -> A S b", "base: S -> c", "none: A ->")
        self.assert_grammar("one: S -> a S b", "two: S ->")
        self.assert_grammar("one: S -> S a S", "two: S ->")
        self.assert_grammar("one: S -> A a", "two: A -> S", "three: S ->")

    def test_the_same_text_in_other_nonterminals(self):
        self.assert_grammar("one: S -> A", "two: A -> B", "three: B -> C", "four: C -> D", "five: D -> E", "six: E -> x")
        self.assert_grammar("one: S -> A", "two: S -> B", "three: A -> C", "four: B -> C", "five: C ->")
        self.assert_grammar("one: S -> A B", "two: A -> B", "three: B ->", "four: B -> b")
        self.assert_grammar("one: S -> A A", "two: A -> a", "three: A ->")
        self.assert_grammar("one: S -> A A A A A", "two: A -> B B B B B", "three: B ->")

    def test_empty_nodes_beside_each_other(self):
        self.assert_grammar("one: S -> A A", "two: A ->")
        self.assert_grammar("one: S -> A x A", "two: A ->", "three: S -> A y")


class TestFromLines(GrammarCase):
    def test_productions_of_lines(self):
        made = Grammar.from_lines("plus: E -> E + E", "num: E -> n", "none: E -> A x", "empty: A ->")
        self.assertEqual(made.productions, (("plus", "E", ("E", "+", "E")), ("num", "E", ("n",)),
                                            ("none", "E", ("A", "x")), ("empty", "A", ())))
        self.assertIsInstance(made, Grammar)
        self.assertIsInstance(made.productions, tuple)

    def test_off_an_object(self):
        self.assertEqual(SUMS.from_lines("num: E -> n").lines, ("num: E -> n",))

    def test_signs(self):
        line = "signs: S -> : - > - :"
        self.assertEqual(Grammar.from_lines(line).productions, (("signs", "S", (":", "-", ">", "-", ":")),))
        for sign in SIGN_LIST:
            self.assertEqual(Grammar.from_lines(f"a: S -> {sign}").productions, (("a", "S", (sign,)),))

    def test_long_words(self):
        line = "abcdefgh: Abcdef -> abcdefgh shift accept"
        self.assertEqual(Grammar.from_lines(line).lines, (line,))

    def test_wrong_lines(self):
        wrong = ["", " ", "num", "num:", "num: E", "num: E -", "num: E >", "num: E - > n", "num: E =>", "num E -> n",
                 "num : E -> n", "num:E -> n", "num: E->n", "num: E ->n", "num: E-> n", "num:  E -> n", "num: E  -> n",
                 "num: E ->  n", "num: E -> n  m", " num: E -> n", "num: E -> n ", "num: E -> ", "none: A ->  ",
                 "num: E -> n\n", "\nnum: E -> n", "num: E -> n\nnum: E -> m", "num:\tE -> n", "num: E\t-> n",
                 "num: E ->\tn", "num: E -> n\tm", "num: E -> n\t", "num:: E -> n", "num; E -> n", ": E -> n",
                 "shift: E -> n", "accept: E -> n", "abcdefghi: E -> n", "Num: E -> n", "+: E -> n", "n1: E -> n",
                 "num: e -> n", "num: $ -> n", "num: Abcdefg -> n", "num: EE -> n", "num: -> n", "num: + -> n",
                 "num: E -> $", "num: E -> n $", "num: E -> ++", "num: E -> abcdefghi", "num: E -> Abcdefg",
                 "num: E -> a b c d e f", "num: E -> a a a a a a a a", "num: E -> ->", "num: E -> n -> n",
                 "num: E -> N1", "num: E -> n, m", "$: E -> n", "num: E <- n", "num: E -> n num: E -> m", "x" * 9000,
                 "num: E -> " + "n " * 4490, "num: E -> 'n'"]
        for line in wrong + ODD + [("num", "E", ("n",)), ("num: E -> n",), ["num: E -> n"], SUMS]:
            for at in range(3):
                lines = list(PAIRS.lines)
                lines[at] = line
                with self.assertRaises(ParseError, msg=repr(line)[:80]) as caught:
                    Grammar.from_lines(*lines)
                self.assertEqual(caught.exception.line, at)

    def test_the_first_wrong_line_is_told(self):
        for lines, at in ((("a: S -> x", "b", "c"), 1), (("a", "b: S -> x", None), 0), ((None,), 0), ((True, "b"), 0),
                          (("a: S -> x", "b: S -> y", "c: S -> z", 3), 3)):
            with self.assertRaises(ParseError) as caught:
                Grammar.from_lines(*lines)
            self.assertEqual(caught.exception.line, at)
            self.assertIsInstance(caught.exception.line, int)

    def test_lines_come_before_grammars(self):
        for lines, at in ((("a: S -> x", "a: S -> y", "b"), 2), (("a: S -> S", ""), 1), (lines_of(17) + ("b",), 17),
                          (("a: S -> A", "b: B -> x", "c: S ->  x"), 2)):
            with self.assertRaises(ParseError) as caught:
                Grammar.from_lines(*lines)
            self.assertEqual(caught.exception.line, at)

    def test_right_lines_of_no_grammar(self):
        self.assert_none("a: S -> x", "a: S -> y")
        self.assert_none(*lines_of(17))
        for head in LARGE[:7]:
            self.assert_none(f"a: {head} -> {head}")


if __name__ == "__main__":
    unittest.main()
