"""Indexing, membership, iteration and the signs of grammars, and what is part of what."""

import unittest

from chosentrees.base.grammars import Grammar
from chosentrees.errors import InvalidGrammar, InvalidOperation, UnknownName

from samples import ELSE, NEST, ODD, PAIRS, SUMS, nested

WHILE = ("loop", "S", ("while", "S"))
NO_NAMES = ["", "$", "E", "S", "n", "+", "shift", "accept", "nums", "nu", "Num", "plus ", "num\n", ("num",), ["num"],
            ("num", "E", ("n",)), (), "cond", "abcdefghi"]
NO_PRODUCTIONS = ["", "num", "num: E -> n", (), ("new", "E"), ("new", "E", ("n",), ()), ["new", "E", ("n",)],
                  ("new", "E", ["n"]), ("new", "E", "n"), ("shift", "E", ("q",)), ("accept", "E", ("q",)),
                  ("accept", "", ("E",)), ("new", "e", ("n",)), ("new", "Abcdefg", ("n",)), ("new", "E", ("$",)),
                  ("new", "E", ("n",) * 6), ("abcdefghi", "E", ("q",)), ("new", True, ("n",)), (True, "E", ("n",)),
                  ("new", "E", (True,)), ("new", "E", None), ("new", "E", (("n",),)), (("new", "E", ("q",)),),
                  ("new", "E", ("n\n",)), ("new\t", "E", ("n",)), ("new", "E", ("",))]


class TestIndexing(unittest.TestCase):
    def test_productions_by_name(self):
        for grammar in (SUMS, ELSE, NEST, PAIRS):
            for production in grammar.productions:
                self.assertEqual(grammar[production[0]], production)
        self.assertEqual(SUMS["neg"], ("neg", "E", ("-", "E")))

    def test_wrong_values(self):
        for wrong in ODD + NO_NAMES + [0, 1, -1, slice(0, 1)]:
            with self.assertRaises(UnknownName, msg=repr(wrong)[:80]) as caught:
                SUMS[wrong]
            self.assertIs(caught.exception.wanted, wrong)
        with self.assertRaises(KeyError):
            ELSE["num"]


class TestMembership(unittest.TestCase):
    def test_productions_and_names(self):
        for grammar in (SUMS, ELSE, NEST, PAIRS):
            for production in grammar.productions:
                self.assertIs(production in grammar, True)
                self.assertIs(production[0] in grammar, True)
        self.assertIs(("neg", "E", ("-", "E")) in SUMS, True)

    def test_other_productions(self):
        for value in (("neg", "E", ("-",)), ("neg", "S", ("-", "E")), ("minus", "E", ("-", "E")), ("num", "E", ()),
                      ELSE["cond"], ("neg", "E", ["-", "E"]), ["neg", "E", ("-", "E")], ("neg", "E"),
                      (("neg", "E", ("-", "E")),), ("neg", "E", ("-", "E"), ())):
            self.assertIs(value in SUMS, False, value)

    def test_other_values(self):
        more = [SUMS.productions, SUMS.lines, ("num",), (("num", "E", ("n",)),), "num: E -> n"]
        names = [name for name in NO_NAMES if name != SUMS["num"]]
        for value in ODD + names + more + [value for value in NO_PRODUCTIONS if value != "num"]:
            self.assertIs(value in SUMS, False, repr(value)[:80])


class TestLengthAndIteration(unittest.TestCase):
    def test_number_of_productions(self):
        self.assertEqual([len(each) for each in (SUMS, ELSE, NEST, PAIRS)], [4, 3, 3, 6])

    def test_iteration(self):
        for grammar in (SUMS, ELSE, NEST, PAIRS):
            self.assertEqual(list(grammar), list(grammar.productions))
            self.assertEqual(tuple(grammar), grammar.productions)
        turned = Grammar(SUMS.productions[::-1])
        self.assertEqual([name for name, head, body in turned], ["neg", "times", "plus", "num"])

    def test_two_iterations_at_once(self):
        self.assertEqual([(one[0], other[0]) for one in NEST for other in NEST],
                         [(one, other) for one in NEST.names for other in NEST.names])

    def test_text(self):
        self.assertEqual([str(each) for each in (SUMS, ELSE, PAIRS)],
                         ["grammar of 4 productions", "grammar of 3 productions", "grammar of 6 productions"])
        self.assertEqual(str(Grammar.from_lines("one: S -> x")), "grammar of 1 productions")
        self.assertEqual(f"{SUMS}", "grammar of 4 productions")


class TestEquality(unittest.TestCase):
    def test_equal_grammars(self):
        for grammar in (SUMS, ELSE, NEST, PAIRS):
            same = Grammar(tuple(list(grammar.productions)))
            self.assertIs(grammar == same, True)
            self.assertIs(grammar != same, False)
            self.assertIs(grammar == grammar, True)

    def test_different_grammars(self):
        others = [ELSE, Grammar(SUMS.productions[::-1]), SUMS - "neg", SUMS + ("par", "E", ("(", "E", ")")),
                  Grammar.from_lines("num: E -> n", "plus: E -> E + E", "times: E -> E * E", "minus: E -> - E"),
                  Grammar.from_lines("num: F -> n", "plus: F -> F + F", "times: F -> F * F", "neg: F -> - F"),
                  Grammar.from_lines("num: E -> n", "plus: E -> E + E", "times: E -> E * E", "neg: E -> / E"),
                  Grammar.from_lines("num: E -> n", "plus: E -> E + E", "neg: E -> - E", "times: E -> E * E")]
        for other in others:
            self.assertIs(SUMS == other, False)
            self.assertIs(SUMS != other, True)
            self.assertIs(other == SUMS, False)

    def test_other_values(self):
        for value in ODD + [SUMS.productions, list(SUMS.productions), SUMS.lines, "grammar of 4 productions", 4, ()]:
            if not isinstance(value, Grammar):
                self.assertIs(SUMS == value, False)
                self.assertIs(SUMS != value, True)
                self.assertIs(value == SUMS, False)


class TestAdding(unittest.TestCase):
    def test_behind_the_others(self):
        more = ELSE + WHILE
        self.assertEqual(more.productions, ELSE.productions + (WHILE,))
        self.assertEqual((more.start, more.terminals), ("S", ("else", "if", "while", "x")))
        self.assertEqual(len(ELSE), 3)
        self.assertEqual((ELSE + WHILE + ("none", "S", ("no",))).names, ("cond", "both", "act", "loop", "none"))

    def test_wrong_productions(self):
        for wrong in ODD + NO_PRODUCTIONS + [SUMS, SUMS.productions, [("new", "E", ("q",))]]:
            with self.assertRaises(InvalidOperation, msg=repr(wrong)[:80]):
                SUMS + wrong

    def test_no_grammar(self):
        for wrong in (("num", "E", ("q",)), ("new", "E", ("n",)), ("num", "E", ("n",)), ("new", "F", ("n",)),
                      ("new", "E", ("F",)), ("new", "E", ("E",)), ("new", "F", ("F",))):
            with self.assertRaises(InvalidGrammar, msg=wrong):
                SUMS + wrong
        many = SUMS + ("new", "E", ("a", "b", "c", "d", "e")) + ("more", "E", ("f",))
        with self.assertRaises(InvalidGrammar):
            many + ("last", "E", ("g",))
        with self.assertRaises(InvalidGrammar):
            NEST + ("loop", "S", ("A", "S"))
        full = Grammar(tuple((name, "S", tuple(name)) for name in "a b ab ba aa bb aaa bbb aab abb aba bab bba baa aaaa "
                             "bbbb".split(" ")))
        with self.assertRaises(InvalidGrammar):
            full + ("abab", "S", ("a", "b", "a", "b"))


class TestTakingAway(unittest.TestCase):
    def test_without_a_production(self):
        self.assertEqual((SUMS - "neg").lines, ("num: E -> n", "plus: E -> E + E", "times: E -> E * E"))
        self.assertEqual((SUMS - "plus").names, ("num", "times", "neg"))
        self.assertEqual((SUMS - "neg").terminals, ("*", "+", "n"))
        self.assertEqual((SUMS - "neg" - "plus" - "times").names, ("num",))
        self.assertEqual(len(SUMS), 4)

    def test_the_first_production(self):
        self.assertEqual((ELSE - "cond").names, ("both", "act"))
        self.assertEqual((ELSE - "cond").start, "S")
        turned = Grammar.from_lines("a: S -> A x", "b: A -> S y", "c: A -> x", "d: S -> z")
        self.assertEqual((turned - "a").start, "A")

    def test_wrong_names(self):
        for wrong in ODD + NO_NAMES:
            with self.assertRaises(UnknownName, msg=repr(wrong)[:80]) as caught:
                SUMS - wrong
            self.assertIs(caught.exception.wanted, wrong)

    def test_no_grammar(self):
        for grammar, name in ((SUMS, "num"), (NEST, "none"), (NEST, "base"), (NEST, "push"), (PAIRS, "ca"), (PAIRS, "cb"),
                              (Grammar.from_lines("one: S -> x"), "one"), (ELSE, "act")):
            with self.assertRaises(InvalidGrammar, msg=name):
                grammar - name


class TestJoining(unittest.TestCase):
    def test_productions_of_both(self):
        one = Grammar.from_lines("num: E -> n", "plus: E -> E + E")
        other = Grammar.from_lines("neg: E -> - E", "plus: E -> E + E", "par: E -> ( E )", "num: E -> n")
        self.assertEqual((one | other).names, ("num", "plus", "neg", "par"))
        self.assertEqual((other | one).names, ("neg", "plus", "par", "num"))
        self.assertEqual((one | one), one)
        self.assertEqual((SUMS | one), SUMS)
        self.assertEqual((one | SUMS).names, ("num", "plus", "times", "neg"))
        self.assertEqual((len(one), len(other)), (2, 4))

    def test_the_start_is_that_of_the_one(self):
        one = Grammar.from_lines("a: S -> x A", "b: A -> y")
        other = Grammar.from_lines("c: A -> z S", "d: S -> w")
        self.assertEqual(((one | other).start, (other | one).start), ("S", "A"))

    def test_wrong_values(self):
        for wrong in [value for value in ODD if not isinstance(value, Grammar)] + [
                SUMS.productions, list(SUMS.productions), SUMS.lines, "num", ("num", "E", ("n",)), (), {}, nested(40)]:
            with self.assertRaises(InvalidOperation, msg=repr(wrong)[:80]):
                SUMS | wrong

    def test_no_grammar(self):
        with self.assertRaises(InvalidGrammar):
            SUMS | ELSE
        with self.assertRaises(InvalidGrammar):
            SUMS | Grammar.from_lines("num: E -> m")
        with self.assertRaises(InvalidGrammar):
            SUMS | Grammar.from_lines("other: E -> n")
        with self.assertRaises(InvalidGrammar):
            Grammar.from_lines("a: S -> A", "b: A -> x") | Grammar.from_lines("c: A -> S", "d: S -> y")
        sixteen = [Grammar.from_lines(*(f"{word}{at}: S -> {at} {end}" for at in "abcdefghi"))
                   for word, end in (("m", "a"), ("n", "b"))]
        with self.assertRaises(InvalidGrammar):
            sixteen[0] | sixteen[1]


class TestPartOf(unittest.TestCase):
    def test_parts(self):
        for grammar, value in ((SUMS, SUMS), (SUMS - "neg", SUMS), (SUMS - "plus" - "times", SUMS), (ELSE, ELSE + WHILE),
                               (SUMS, Grammar(SUMS.productions[::-1])), (Grammar(SUMS.productions[::-1]), SUMS)):
            self.assertIs(grammar.is_part_of(value), True)

    def test_no_parts(self):
        for grammar, value in ((SUMS, SUMS - "neg"), (ELSE + WHILE, ELSE), (SUMS, ELSE), (ELSE, SUMS),
                               (Grammar.from_lines("num: E -> n", "more: E -> E + E"), SUMS),
                               (Grammar.from_lines("num: E -> n", "plus: E -> E * E"), SUMS)):
            self.assertIs(grammar.is_part_of(value), False)

    def test_another_start(self):
        one = Grammar.from_lines("a: S -> A x", "b: A -> S y", "c: A -> x", "d: S -> z")
        other = Grammar(one.productions[1:] + one.productions[:1])
        self.assertEqual((one.start, other.start), ("S", "A"))
        self.assertIs(one.is_part_of(other), False)
        self.assertIs(other.is_part_of(one), False)
        small = Grammar.from_lines("c: A -> x")
        self.assertIs(small.is_part_of(one), False)
        self.assertIs(small.is_part_of(other), True)

    def test_other_values(self):
        small = Grammar.from_lines("num: E -> n")
        for value in [value for value in ODD if not isinstance(value, Grammar)] + [
                SUMS.productions, list(SUMS), "num", (), {}, SUMS.names, small.productions[0]]:
            self.assertIs(small.is_part_of(value), False)
        self.assertIs(small.is_part_of(SUMS), True)


if __name__ == "__main__":
    unittest.main()
