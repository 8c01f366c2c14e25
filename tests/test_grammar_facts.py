"""Properties of grammars, and what their nonterminals lead to [0.8] [0.9] [0.18]."""

import unittest

from chosentrees.base.grammars import Grammar
from chosentrees.errors import TooMany, UnknownName

from samples import ELSE, NEST, ODD, PAIRS, SUMS

EMPTY = Grammar.from_lines("all: S -> A B c", "one: A -> a", "two: A ->", "three: B -> b", "four: B ->")
BOTH = Grammar.from_lines("all: S -> A B", "one: A -> a", "two: A ->", "three: B -> b", "four: B ->")
ROUND = Grammar.from_lines("round: S -> ( S )", "more: S -> S ! S", "last: S -> x")
LONG = ("all: S -> A A A A A", "a: A -> B B B", "b: B -> x x x x")


class TestProperties(unittest.TestCase):
    def test_productions_and_names(self):
        self.assertEqual(ELSE.productions, (("cond", "S", ("if", "S")), ("both", "S", ("if", "S", "else", "S")),
                                            ("act", "S", ("x",))))
        self.assertEqual(ELSE.names, ("cond", "both", "act"))
        self.assertEqual(PAIRS.names, ("one", "two", "three", "four", "ca", "cb"))
        self.assertEqual(NEST.productions[2], ("none", "A", ()))

    def test_given_order(self):
        turned = Grammar(tuple(reversed(SUMS.productions)))
        self.assertEqual(turned.names, ("neg", "times", "plus", "num"))
        self.assertEqual(turned.productions, SUMS.productions[::-1])
        self.assertEqual(turned.lines, ("neg: E -> - E", "times: E -> E * E", "plus: E -> E + E", "num: E -> n"))
        self.assertEqual(turned.terminals, ("*", "+", "-", "n"))

    def test_start(self):
        self.assertEqual([each.start for each in (SUMS, ELSE, NEST, PAIRS)], ["E", "S", "S", "S"])
        self.assertEqual(Grammar.from_lines("b: Zed -> Abc", "a: Abc -> x").start, "Zed")
        self.assertEqual(Grammar.from_lines("b: Abc -> Zed", "a: Zed -> x").start, "Abc")

    def test_terminals(self):
        self.assertEqual(SUMS.terminals, ("*", "+", "-", "n"))
        self.assertEqual(ELSE.terminals, ("else", "if", "x"))
        self.assertEqual(PAIRS.terminals, ("a", "b", "c"))
        self.assertEqual(Grammar.from_lines("none: S ->").terminals, ())
        self.assertEqual(Grammar.from_lines("a: S -> | z", "b: S -> ! aa ^ a").terminals, ("!", "^", "a", "aa", "z", "|"))

    def test_nonterminals(self):
        self.assertEqual(SUMS.nonterminals, ("E",))
        self.assertEqual(NEST.nonterminals, ("A", "S"))
        self.assertEqual(PAIRS.nonterminals, ("A", "B", "S"))
        self.assertEqual(Grammar.from_lines("a: S -> Bb Ba B", "b: B -> x", "c: Bb -> x", "d: Ba ->").nonterminals,
                         ("B", "Ba", "Bb", "S"))

    def test_as_many_as_there_can_be_ascending(self):
        lines = ("all: Z -> M C Ab B A", "m: M -> z . k", "c: C -> ( b )", "ab: Ab -> aa a", "b: B -> +", "a: A -> !")
        grammar = Grammar.from_lines(*lines)
        self.assertEqual(grammar.nonterminals, ("A", "Ab", "B", "C", "M", "Z"))
        self.assertEqual(grammar.terminals, ("!", "(", ")", "+", ".", "a", "aa", "b", "k", "z"))
        self.assertEqual(grammar.start, "Z")

    def test_lines(self):
        self.assertEqual(NEST.lines, ("push: S -> A S b", "base: S -> c", "none: A ->"))
        self.assertEqual(SUMS.lines, ("num: E -> n", "plus: E -> E + E", "times: E -> E * E", "neg: E -> - E"))
        for each in (SUMS, ELSE, NEST, PAIRS, EMPTY, ROUND):
            self.assertEqual(Grammar.from_lines(*each.lines), each)

    def test_they_are_tuples(self):
        for value in (SUMS.productions, SUMS.names, SUMS.terminals, SUMS.nonterminals, SUMS.lines, SUMS.of("E"),
                      SUMS.firsts("E"), SUMS.follows("E"), SUMS.least("E"), SUMS["num"]):
            self.assertIsInstance(value, tuple)


class TestOf(unittest.TestCase):
    def test_names_of_a_head(self):
        self.assertEqual(SUMS.of("E"), ("num", "plus", "times", "neg"))
        self.assertEqual(PAIRS.of("S"), ("one", "two", "three", "four"))
        self.assertEqual(PAIRS.of("A"), ("ca",))
        self.assertEqual(NEST.of("A"), ("none",))

    def test_given_order(self):
        mixed = Grammar.from_lines("z: S -> A x", "y: A -> a", "c: S -> b", "b: A -> b", "a: S -> a")
        self.assertEqual((mixed.of("S"), mixed.of("A")), (("z", "c", "a"), ("y", "b")))


class TestFirsts(unittest.TestCase):
    def test_of_the_samples(self):
        self.assertEqual(SUMS.firsts("E"), ("-", "n"))
        self.assertEqual(ELSE.firsts("S"), ("if", "x"))
        self.assertEqual((NEST.firsts("A"), NEST.firsts("S")), (("",), ("c",)))
        self.assertEqual([PAIRS.firsts(each) for each in "SAB"], [("a", "b"), ("c",), ("c",)])

    def test_empty_parts_ahead(self):
        self.assertEqual([EMPTY.firsts(each) for each in "SAB"], [("a", "b", "c"), ("", "a"), ("", "b")])
        self.assertEqual([BOTH.firsts(each) for each in "SAB"], [("", "a", "b"), ("", "a"), ("", "b")])

    def test_only_some_parts_are_empty(self):
        some = Grammar.from_lines("all: S -> A B", "one: A -> a", "two: A ->", "three: B -> b")
        self.assertEqual([some.firsts(each) for each in "SAB"], [("a", "b"), ("", "a"), ("b",)])

    def test_through_others(self):
        deep = Grammar.from_lines("a: S -> A x", "b: A -> B", "c: B -> C y", "d: C ->", "e: C -> S z", "f: C -> (")
        self.assertEqual([deep.firsts(each) for each in "SABC"], [("(", "y"), ("(", "y"), ("(", "y"), ("", "(", "y")])

    def test_through_itself_behind_empty_parts(self):
        again = Grammar.from_lines("a: S -> A S b", "b: S -> A", "c: A -> a", "d: A ->")
        self.assertEqual((again.firsts("S"), again.firsts("A")), (("", "a", "b"), ("", "a")))

    def test_all_empty(self):
        self.assertEqual(Grammar.from_lines("a: S -> A A", "b: A ->").firsts("S"), ("",))
        self.assertEqual(Grammar.from_lines("a: S ->").firsts("S"), ("",))


class TestFollows(unittest.TestCase):
    def test_of_the_samples(self):
        self.assertEqual(SUMS.follows("E"), ("$", "*", "+"))
        self.assertEqual(ELSE.follows("S"), ("$", "else"))
        self.assertEqual((NEST.follows("A"), NEST.follows("S")), (("c",), ("$", "b")))
        self.assertEqual([PAIRS.follows(each) for each in "SAB"], [("$",), ("a", "b"), ("a", "b")])

    def test_ascending_with_the_end(self):
        self.assertEqual(ROUND.follows("S"), ("!", "$", ")"))

    def test_the_end_only_where_trees_end(self):
        inner = Grammar.from_lines("a: S -> ( A )", "b: A -> A , A", "c: A -> x")
        self.assertEqual((inner.follows("S"), inner.follows("A")), (("$",), (")", ",")))

    def test_behind_empty_parts(self):
        self.assertEqual([EMPTY.follows(each) for each in "SAB"], [("$",), ("b", "c"), ("c",)])
        self.assertEqual([BOTH.follows(each) for each in "SAB"], [("$",), ("$", "b"), ("$",)])

    def test_from_the_outside_through_others(self):
        deep = Grammar.from_lines("a: S -> x A", "b: A -> y B", "c: B -> z C", "d: C -> ( S )", "e: C ->", "f: S -> A ;")
        self.assertEqual([deep.follows(each) for each in "SABC"], [("$", ")"), ("$", ")", ";")] + [("$", ")", ";")] * 2)

    def test_several_places(self):
        places = Grammar.from_lines("a: S -> A a A b A", "b: A -> x")
        self.assertEqual(places.follows("A"), ("$", "a", "b"))

    def test_of_a_nonterminal_with_two_places_side_by_side(self):
        places = Grammar.from_lines("a: S -> A A", "b: A -> x", "c: A ->")
        self.assertEqual(places.follows("A"), ("$", "x"))


class TestLeast(unittest.TestCase):
    def least(self, *lines):
        grammar = Grammar.from_lines(*lines)
        return grammar.least(grammar.start)

    def test_of_the_samples(self):
        self.assertEqual(SUMS.least("E"), ("n",))
        self.assertEqual(ELSE.least("S"), ("x",))
        self.assertEqual((NEST.least("S"), NEST.least("A")), (("c",), ()))
        self.assertEqual([PAIRS.least(each) for each in "SAB"], [("a", "c", "a"), ("c",), ("c",)])

    def test_fewer_terminals_come_first(self):
        self.assertEqual(self.least("a: S -> a a", "b: S -> z"), ("z",))
        self.assertEqual(self.least("a: S -> z", "b: S -> a a"), ("z",))
        self.assertEqual(self.least("a: S -> z", "b: S ->"), ())
        self.assertEqual(self.least("a: S -> z z z", "b: S -> A A A A A", "c: A ->"), ())
        self.assertEqual(self.least("a: S -> abcdefgh abcdefgh", "b: S -> a a a"), ("abcdefgh", "abcdefgh"))

    def test_as_many_terminals(self):
        for lines in (("a: S -> b", "b: S -> a"), ("b: S -> a", "a: S -> b")):
            self.assertEqual(self.least(*lines), ("a",))
        self.assertEqual(self.least("a: S -> b a", "b: S -> a z"), ("a", "z"))
        self.assertEqual(self.least("a: S -> a z", "b: S -> a b"), ("a", "b"))
        self.assertEqual(self.least("a: S -> b", "b: S -> aa"), ("aa",))
        self.assertEqual(self.least("a: S -> a", "b: S -> |"), ("a",))
        self.assertEqual(self.least("a: S -> a", "b: S -> ^"), ("^",))
        self.assertEqual(self.least("a: S -> ab a", "b: S -> a z"), ("a", "z"))

    def test_as_many_terminals_in_parts(self):
        self.assertEqual(self.least("a: S -> A A", "b: A -> z", "c: A -> y"), ("y", "y"))
        self.assertEqual(self.least("a: S -> b A", "b: S -> A b", "c: A -> c", "d: A -> a"), ("a", "b"))
        self.assertEqual(self.least("a: S -> A", "b: S -> B", "c: A -> x a", "d: B -> b z"), ("b", "z"))
        self.assertEqual(self.least("a: S -> A B", "b: A -> b", "c: A -> c c", "d: B -> z", "e: B -> a a"), ("b", "z"))
        self.assertEqual(self.least("a: S -> a A b", "b: S -> A A", "c: A -> x y", "d: A -> c S c", "e: A -> z a"),
                         ("a", "x", "y", "b"))

    def test_production_order_does_not_matter(self):
        lines = ("a: S -> b b", "b: S -> B B", "c: B -> c", "d: B -> C", "e: C -> a", "f: S -> C B C")
        for turned in (lines, lines[:1] + lines[:0:-1]):
            self.assertEqual(self.least(*turned), ("a", "a"))

    def test_late_shorter_ones(self):
        self.assertEqual(self.least("a: S -> a a a a", "b: S -> A", "c: A -> B", "d: B -> C", "e: C -> D", "f: D -> x"),
                         ("x",))

    def test_sixty_terminals(self):
        grammar = Grammar.from_lines(*LONG)
        self.assertEqual(grammar.least("S"), ("x",) * 60)
        self.assertEqual((grammar.least("A"), grammar.least("B")), (("x",) * 12, ("x",) * 4))

    def test_more_than_sixty(self):
        grammar = Grammar.from_lines("all: S -> A A A A C", "c: C -> y A", *LONG[1:])
        with self.assertRaises(TooMany) as caught:
            grammar.least("S")
        self.assertEqual(caught.exception.limit, 60)
        self.assertEqual(grammar.least("C"), ("y",) + ("x",) * 12)
        self.assertEqual((grammar.firsts("S"), grammar.follows("A"), grammar.of("C")), (("x",), ("$", "x", "y"), ("c",)))

    def test_more_than_sixty_but_for_one(self):
        grammar = Grammar.from_lines("all: S -> A A A A C", "c: C -> y A", *LONG[1:], "less: C -> z A")
        with self.assertRaises(TooMany):
            grammar.least("S")
        self.assertEqual((grammar + ("few", "C", ("z", "B", "B", "B"))).least("C"), ("y",) + ("x",) * 12)
        self.assertEqual((grammar + ("few", "C", ("z", "B"))).least("S"), ("x",) * 48 + ("z",) + ("x",) * 4)

    def test_as_many_as_there_can_be(self):
        heads = "ABCDEF"
        lines = [f"{head.lower()}: {head} -> " + " ".join([behind] * 5) for head, behind in zip(heads, heads[1:] + "x")]
        grammar = Grammar.from_lines(*lines)
        for head in "ABCD":
            with self.assertRaises(TooMany) as caught:
                grammar.least(head)
            self.assertEqual(caught.exception.limit, 60)
        self.assertEqual((grammar.least("E"), grammar.least("F")), (("x",) * 25, ("x",) * 5))


class TestUnknownNonterminals(unittest.TestCase):
    def test_wrong_values(self):
        long = Grammar.from_lines("all: S -> A A A A A", "a: A -> x x x x x", "more: A -> y y y y y")
        for grammar in (SUMS, ELSE, NEST, PAIRS, long):
            for wrong in ODD + ["", "$", "x", "n", "+", "num", "act", "C", "Ee", "Ss", "s", "e", "a", ("E",), ["S"], ("S",),
                                (), grammar, "E ", "S\n", "Abcdefg"]:
                for method in (grammar.of, grammar.firsts, grammar.follows, grammar.least):
                    with self.assertRaises(UnknownName, msg=repr(wrong)[:80]) as caught:
                        method(wrong)
                    self.assertIs(caught.exception.wanted, wrong)

    def test_nonterminals_of_others(self):
        for method in (SUMS.of, SUMS.firsts, SUMS.follows, SUMS.least):
            with self.assertRaises(UnknownName):
                method("S")
        for method in (ELSE.of, ELSE.firsts, ELSE.follows, ELSE.least):
            with self.assertRaises(UnknownName):
                method("A")


if __name__ == "__main__":
    unittest.main()
