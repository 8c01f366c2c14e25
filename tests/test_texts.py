"""Values written as texts, and read from them [17.1] [2.1]; stage 17."""

import random
import unittest

from chosentrees.base.grammars import Grammar
from chosentrees.base.trees import all_trees, is_tree
from chosentrees.errors import (InvalidFilter, InvalidGrammar, InvalidLevels, InvalidResolution, InvalidTree, ParseError)
from chosentrees.run.parsers import Parser
from chosentrees.table.levels import Levels
from chosentrees.table.tables import KINDS, Table
from chosentrees.text.texts import (read_filter, read_grammar, read_levels, read_resolution, read_tree, write_filter,
                                    write_grammar, write_levels, write_resolution, write_tree)
from chosentrees.wish.filters import Filter, Wishes

import plain_trees
from samples import DANGLING, ELSE, FAR, NEST, ODD, SUMS, USUAL, chain_of, comb_of
from small import all_grammars, some_texts, told_grammars
from small_filters import all_bars, some_filters


def changes(text, chooser, many):
    """Texts that differ from this one in a sign, a blank, a word or a line."""
    for _ in range(many):
        at = chooser.randrange(len(text) + 1)
        kind = chooser.randrange(6)
        words, lines = text.split(" "), text.split("\n")
        if kind == 0:
            yield text[:at] + chooser.choice(" \n\t0-axS") + text[at:]
        elif kind == 1:
            yield text[:at] + text[at + 1:]
        elif kind == 2:
            chooser.shuffle(words)
            yield " ".join(words)
        elif kind == 3:
            chooser.shuffle(lines)
            yield "\n".join(lines)
        elif kind == 4:
            yield "\n".join(lines + [chooser.choice(lines)])
        else:
            yield chooser.choice(("", " ", "\n")) + text + chooser.choice(("", " ", "\n"))


def strings():
    """The odd values that are strings, and the others."""
    return [value for value in ODD if isinstance(value, str)], [value for value in ODD if not isinstance(value, str)]


class TestBackAndForth(unittest.TestCase):
    def check(self, value, write, read, chooser):
        """What is written is read back, and no other text is read as the same value."""
        text = write(value)
        self.assertEqual(read(text), value)
        for other in changes(text, chooser, 30):
            try:
                made = read(other)
            except (ParseError, InvalidGrammar, InvalidFilter, InvalidLevels):
                self.assertNotEqual(other, text)
                continue
            self.assertEqual(write(made), other)

    def test_grammars(self):
        chooser = random.Random(83)
        for grammar in told_grammars() + all_grammars(every=20)[24:]:
            self.assertEqual(write_grammar(grammar), "\n".join(grammar.lines))
            self.check(grammar, write_grammar, read_grammar, chooser)

    def test_trees(self):
        chooser = random.Random(89)
        for grammar in told_grammars() + all_grammars(every=20)[24:]:
            for text in some_texts(grammar, 4, 60):
                for tree in list(all_trees(grammar, text))[:3]:
                    self.check(tree, lambda value: write_tree(grammar, value), lambda line: read_tree(grammar, line), chooser)
                    words = [part if isinstance(part, str) else part[0] for path, part in plain_trees.nodes(tree)]
                    self.assertEqual(write_tree(grammar, tree).split(" "), words)
                    for part in [part for path, part in plain_trees.nodes(tree) if not isinstance(part, str)]:
                        self.assertEqual(read_tree(grammar, write_tree(grammar, part)), part)

    def test_resolutions(self):
        chooser = random.Random(97)
        for grammar in told_grammars():
            table = Table(grammar, chooser.choice(KINDS))
            for share in (0, 0.3, 1):
                made = {cell: chooser.choice(row) for cell, row in table.cells.items() if chooser.random() < share}
                self.check(made, write_resolution, read_resolution, chooser)
                shuffled = {cell: made[cell] for cell in sorted(made, key=repr, reverse=True)}
                self.assertEqual(write_resolution(shuffled), write_resolution(made))
                self.assertEqual(list(read_resolution(write_resolution(made))), sorted(made))

    def test_filters(self):
        chooser = random.Random(101)
        for grammar in told_grammars():
            for bars in some_filters(grammar, chooser, 4):
                self.check(bars, write_filter, read_filter, chooser)
                self.assertEqual(write_filter(Filter(bars.bars[::-1])), write_filter(bars))

    def test_levels(self):
        chooser = random.Random(103)
        for grammar in told_grammars() * 3:
            terminals = list(grammar.terminals)
            chooser.shuffle(terminals)
            groups = []
            while terminals and chooser.random() < 0.8:
                many = chooser.randrange(3)
                groups.append((chooser.choice(("left", "right", "none")), tuple(sorted(terminals[:many]))))
                terminals = terminals[many:]
            own = {name: chooser.choice([None] + list(range(len(groups)))) for name in grammar.names if chooser.random() < 0.5}
            order = tuple(chooser.sample(grammar.names, chooser.randrange(len(grammar.names) + 1)))
            self.check(Levels(tuple(groups), own=own, order=order), write_levels, read_levels, chooser)


class TestTexts(unittest.TestCase):
    def test_grammars(self):
        self.assertEqual(write_grammar(NEST), "push: S -> A S b\nbase: S -> c\nnone: A ->")
        self.assertEqual(read_grammar("push: S -> A S b\nbase: S -> c\nnone: A ->"), NEST)
        one = Grammar.from_lines("one: S ->")
        self.assertEqual([write_grammar(one), read_grammar("one: S ->")], ["one: S ->", one])

    def test_trees(self):
        self.assertEqual(write_tree(ELSE, FAR), "both if cond if act x else act x")
        self.assertEqual([write_tree(NEST, ("none", ())), read_tree(NEST, "none")], ["none", ("none", ())])
        deep = ("push", (("none", ()), ("base", ("c",)), "b"))
        self.assertEqual([write_tree(NEST, deep), read_tree(NEST, "push none base c b")], ["push none base c b", deep])
        # Terminals that are like names of productions.
        odd = Grammar.from_lines("a: S -> b S a", "b: S -> a", "shut: S -> shift")
        tree = ("a", ("b", ("a", ("b", ("b", ("a",)), "a")), "a"))
        self.assertEqual([write_tree(odd, tree), read_tree(odd, "a b a b b a a a")], ["a b a b b a a a", tree])
        self.assertEqual(read_tree(odd, "shut shift"), ("shut", ("shift",)))

    def test_trees_of_just_two_hundred_nodes_and_more(self):
        for tree in (chain_of(199), chain_of(200), comb_of(199)):
            self.assertEqual(read_tree(SUMS, write_tree(SUMS, tree)), tree)
        line = " ".join(["neg -"] * 200 + ["num n"])
        for tree in (chain_of(201), comb_of(201)):
            with self.assertRaises(InvalidTree):
                write_tree(SUMS, tree)
        with self.assertRaises(ParseError) as caught:
            read_tree(SUMS, line)
        self.assertIs(caught.exception.line, None)
        self.assertEqual(read_tree(SUMS, " ".join(["neg -"] * 199 + ["num n"])), chain_of(200))

    def test_empty_texts(self):
        for read, write, value in ((read_resolution, write_resolution, {}), (read_filter, write_filter, Filter()), (read_levels, write_levels, Levels())):
            self.assertEqual([read(""), write(value)], [value, ""])
            self.assertIs(type(read("")), type(value))
        with self.assertRaises(ParseError) as caught:
            read_grammar("")
        self.assertEqual(caught.exception.line, 0)
        with self.assertRaises(ParseError):
            read_tree(ELSE, "")

    def test_resolutions(self):
        made = {(10, "$"): "accept", (9, "x"): "shift", (9, "+"): "plus", (0, "shift"): "shift", (10 ** 59, "a"): "a"}
        text = "0 shift shift\n9 + plus\n9 x shift\n10 $ accept\n1" + "0" * 59 + " a a"
        self.assertEqual([write_resolution(made), read_resolution(text)], [text, made])

    def test_filters(self):
        self.assertEqual(write_filter(DANGLING), "right both 1 cond")
        self.assertEqual(write_filter(USUAL), "child neg 1 plus\nchild neg 1 times\nchild plus 2 plus\nchild times 0 plus\nchild times 2 plus\nchild times 2 times")

    def test_levels(self):
        levels = Levels((("right", ("=",)), ("none", ()), ("left", ("*", "/"))), own={"neg": 2, "act": None, "if": 0}, order=("b", "a"))
        text = "right =\nnone\nleft * /\nown act -\nown if 0\nown neg 2\norder b a"
        self.assertEqual([write_levels(levels), read_levels(text)], [text, levels])
        self.assertEqual([read_levels("order left own order"), read_levels("none\nnone\nown own 1")],
                         [Levels(order=("left", "own", "order")), Levels((("none", ()), ("none", ())), own={"own": 1})])
        self.assertEqual(read_levels("left left none\nright order own").groups, (("left", ("left", "none")), ("right", ("order", "own"))))


class TestWrongTexts(unittest.TestCase):
    def assert_line(self, read, text, line):
        """The text is not read, and this line is told."""
        with self.assertRaises(ParseError, msg=repr(text)[:100]) as caught:
            read(text)
        self.assertEqual(caught.exception.line, line, repr(text)[:100])

    def test_no_strings(self):
        for wrong in strings()[1]:
            for read in (read_grammar, read_resolution, read_filter, read_levels, lambda value: read_tree(ELSE, value)):
                self.assert_line(read, wrong, None)

    def test_odd_strings(self):
        for wrong in strings()[0]:
            self.assert_line(read_grammar, wrong, 0)
            for read in (read_resolution, read_filter, read_levels):
                if wrong != "":
                    self.assert_line(read, wrong, 0)
            self.assert_line(lambda value: read_tree(ELSE, value), wrong, None)

    def test_grammars(self):
        lines = list(ELSE.lines)
        for at in range(3):
            for wrong in ("", " ", lines[at] + " ", " " + lines[at], lines[at].replace("->", "="), lines[at].replace(":", " :"), "odd: S -> a a a a a a"):
                self.assert_line(read_grammar, "\n".join(lines[:at] + [wrong] + lines[at + 1:]), at)
                self.assert_line(read_grammar, "\n".join(lines[:at] + [wrong] + lines[at + 1:] + ["odd"]), at)
        self.assert_line(read_grammar, "\n".join(lines) + "\n", 3)
        self.assert_line(read_grammar, "\n" + "\n".join(lines), 0)
        for wrong in (lines + lines[:1], lines[:2], lines + ["act: S -> y"], lines + ["act: S -> S"], lines + ["new: S -> T"],
                      [f"{name}: S -> {name}" for name in "abcdefghijklmnopq"]):
            with self.assertRaises(InvalidGrammar):
                read_grammar("\n".join(wrong))

    def test_trees(self):
        for wrong in ("act", "act y", "act x x", "x", "cond if", "cond if act", "cond act x", "both if act x act x", "act  x", " act x", "act x ",
                      "act\nx", "cond if S", "S", "none", "cond if act x else act x", "num n", "if", "act x act x", "both if act x else", "act: x"):
            self.assert_line(lambda value: read_tree(ELSE, value), wrong, None)
        self.assert_line(lambda value: read_tree(NEST, value), "push base c base c b", None)
        self.assert_line(lambda value: read_tree(NEST, value), "push none none b", None)
        for wrong in [value for value in ODD if not isinstance(value, Grammar)]:
            with self.assertRaises(InvalidGrammar):
                read_tree(wrong, None)
            with self.assertRaises(InvalidGrammar):
                write_tree(wrong, None)
            with self.assertRaises(InvalidGrammar):
                write_grammar(wrong)
        for wrong in ODD + [("act", ("y",)), ("num", ("n",)), ["act", ["x"]], ("act", ("x",), None), comb_of(1)]:
            if not is_tree(ELSE, wrong):
                with self.assertRaises(InvalidTree):
                    write_tree(ELSE, wrong)

    def test_resolutions(self):
        fine = ["3 $ accept", "8 * shift", "8 + plus"]
        for at in range(3):
            for wrong in ("", " ", fine[at] + " ", " " + fine[at], "08 + plus", "+8 + plus", "-1 + plus", "8 plus", "8 + + plus", "8 E plus", "8 + E",
                          "8  + plus", "8 + $", "8 ++ plus", "a + plus", "8.0 + plus", "8 + toolongname", " 8 +", "1" * 61 + " + plus", "8 \t plus", "8 shift"):
                self.assert_line(read_resolution, "\n".join(fine[:at] + [wrong] + fine[at + 1:]), at)
        self.assert_line(read_resolution, "\n".join(fine + fine[2:]), 3)
        self.assert_line(read_resolution, "\n".join(fine[:2] + ["8 * plus"] + fine[2:]), 2)
        self.assert_line(read_resolution, "\n".join(fine[1:] + fine[:1] + ["odd"]), 2)
        self.assert_line(read_resolution, "10 + plus\n9 + plus", 1)
        self.assert_line(read_resolution, "\n".join(fine) + "\n", 3)
        self.assert_line(read_resolution, "\n", 0)
        for wrong in [value for value in ODD if value != {}] + [{(0, "x"): None}, {(0, "x"): "E"}, {(-1, "x"): "shift"}, {(True, "x"): "shift"}, {(0, "E"): "shift"},
                                                              {(0, "x", 0): "shift"}, {"x": "shift"}, {(10 ** 60, "x"): "shift"}, Table(ELSE), Levels()]:
            with self.assertRaises(InvalidResolution):
                write_resolution(wrong)

    def test_filters(self):
        fine = ["child neg 1 plus", "left plus 0 neg", "right plus 2 neg"]
        for at in range(3):
            for wrong in ("", fine[at] + " ", " " + fine[at], "inner neg 1 plus", "child neg 5 plus", "child neg -1 plus", "child neg 01 plus", "child neg plus",
                          "child neg 1", "child neg 1 plus plus", "child shift 1 plus", "child neg 1 E", "child  neg 1 plus", "Child neg 1 plus", "child neg a plus",
                          "child + 1 plus", "child neg 10 plus"):
                self.assert_line(read_filter, "\n".join(fine[:at] + [wrong] + fine[at + 1:]), at)
        self.assert_line(read_filter, "\n".join(fine + fine[2:]), 3)
        self.assert_line(read_filter, "\n".join(fine[::-1]), 1)
        self.assert_line(read_filter, "\n".join(fine) + "\n", 3)
        self.assert_line(read_filter, " ; ".join(fine), 0)
        rows = sorted(all_bars(Grammar.from_lines("s: S -> A A A A A", "a: A -> x", "b: A -> y", "c: A -> z", "d: A -> w")))[:61]
        lines = [" ".join(map(str, bar)) for bar in rows]
        self.assertEqual((len(lines), len(read_filter("\n".join(lines[:60])))), (61, 60))
        with self.assertRaises(InvalidFilter):
            read_filter("\n".join(lines))
        self.assert_line(read_filter, "\n".join(lines + ["odd"]), 61)
        for wrong in ODD + [USUAL.bars, Wishes(USUAL), Levels()]:
            with self.assertRaises(InvalidFilter):
                write_filter(wrong)

    def test_levels(self):
        fine = ["left + -", "none", "own act -", "own neg 0", "order b a"]
        self.assertEqual(read_levels("\n".join(fine)), Levels((("left", ("+", "-")), ("none", ())), own={"neg": 0, "act": None}, order=("b", "a")))
        for at in range(5):
            for wrong in ("", " ", fine[at] + " ", " " + fine[at], "left - +", "left + +", "left E", "low +", "Left +", "own", "own neg", "own neg 1 1", "own E 1",
                          "own neg 01", "own neg -1", "own neg +", "own shift 1", "own neg --", "order", "order E", "order a  b", "order shift", "left  +", "own neg none"):
                self.assert_line(read_levels, "\n".join(fine[:at] + [wrong] + fine[at + 1:]), at)
        for rows, line in (((0, 2, 1), 2), ((3, 2), 1), ((2, 2), 1), ((4, 4), 1), ((4, 0), 1), ((4, 3), 1), ((0, 3, 2, 1), 2), ((1, 4, 2), 2)):
            self.assert_line(read_levels, "\n".join(fine[at] for at in rows), line)
        self.assert_line(read_levels, "\n".join(fine) + "\n", 5)
        for wrong in ("own neg 0", "left +\nown neg 1", "left +\nnone + -", "left +\nleft +", "order a a", "order a b a", "\n".join(["none"] * 27),
                      "none\nown neg 99", "left +\nown neg " + "1" * 60):
            with self.assertRaises(InvalidLevels):
                read_levels(wrong)
        self.assert_line(read_levels, "left +\nown neg " + "1" * 61, 1)
        self.assertEqual(len(read_levels("\n".join(["none"] * 26))), 26)
        # A wrong line comes ahead of levels that do not go together.
        self.assert_line(read_levels, "left +\nleft +\nodd", 2)
        for wrong in ODD + [USUAL, Table(ELSE), Levels().groups, Parser(Table(ELSE), {})]:
            with self.assertRaises(InvalidLevels):
                write_levels(wrong)


class TestNothingIsShared(unittest.TestCase):
    def test_resolutions(self):
        made = {(8, "+"): "plus", (3, "$"): "accept"}
        write_resolution(made)
        self.assertEqual(list(made), [(8, "+"), (3, "$")])
        one, other = read_resolution("8 + plus"), read_resolution("8 + plus")
        one.clear()
        self.assertEqual(other, {(8, "+"): "plus"})


if __name__ == "__main__":
    unittest.main()
