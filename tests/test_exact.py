"""Whether parsers build nothing else than filters allow, and miss nothing [0.28] [0.25]; stage 11."""

import random
import unittest

from chosentrees.base.grammars import Grammar
from chosentrees.base.trees import all_trees
from chosentrees.errors import InvalidFilter, InvalidOperation, TooMany
from chosentrees.run.parsers import Parser
from chosentrees.table.levels import Levels
from chosentrees.table.tables import KINDS, Table
from chosentrees.wish.exact import (can_be_exact, is_exact, is_missed_paper, is_within_paper, least_beyond,
                                    missed_paper, within_paper)
from chosentrees.wish.filters import Filter, Wishes
from chosentrees.wish.papers import least_resolution
from chosentrees.wish.surveys import filter_survey, is_filter_survey, is_parser_survey, parser_survey

import plain_labels
import plain_surveys
import plain_trees
from plain_outcomes import Outcomes, long_lines
from samples import DANGLING, ELSE, FAR, NEST, ODD, PAIRS, SUMS, USUAL, chain_of, comb_of
from small import all_grammars, some_texts, told_grammars
from small_filters import EDGES, some_filters
from test_papers import deep_grammar
from test_surveys import some_parsers, wide_filter


def all_of(table):
    """The resolution with the first action of each cell."""
    return {cell: row[0] for cell, row in table.cells.items()}


def calm_parser(kind="lalr"):
    """The parser that builds just what USUAL allows."""
    table = Table(SUMS, kind)
    return Parser(table, least_resolution(table, Wishes(USUAL)))


class TestAgainstShortTexts(unittest.TestCase):
    def test_small_grammars(self):
        chooser = random.Random(23)
        seen = {}
        for grammar in [EDGES] + told_grammars() + all_grammars(every=25)[24:]:
            trees = [tree for text in some_texts(grammar, 5, 60) for tree in list(all_trees(grammar, text))[:8]]
            for parser in chooser.sample(some_parsers(grammar, chooser, 2), 3):
                outcomes = Outcomes(parser, 6, 500)
                for bars in some_filters(grammar, chooser, 2):
                    least = self.check_within(parser, bars, outcomes)
                    word = self.check_missed(parser, bars, trees)
                    self.assertIs(is_exact(parser, bars), least is None and word == "kept")
                    for each in (least is None, word):
                        seen[each] = seen.get(each, 0) + 1
        self.assertGreater(min(seen.values()), 30, seen)

    def check_within(self, parser, bars, outcomes):
        least, wanted = least_beyond(parser, bars), outcomes.least_beyond(bars)
        if wanted is None and least is not None:
            self.assertGreater(len(least), outcomes.most)
        else:
            self.assertEqual(least, wanted, (parser.grammar.lines, parser.table.kind, parser.resolution, bars.bars))
        paper = within_paper(parser, bars)
        self.assertIs(is_within_paper(parser, bars, paper), True)
        self.assertEqual(paper[0], "within" if least is None else "beyond")
        if least is None:
            self.assertIs(is_parser_survey(parser, bars, paper[1]), True)
        else:
            self.assertTrue(plain_labels.broken(bars.bars, parser.tree(least)))
            self.assertTrue(plain_labels.broken(bars.bars, parser.tree(paper[1])))
            self.assertIs(is_within_paper(parser, bars, ("beyond", least)), True)
            self.assertIs(is_within_paper(parser, bars, ("within", parser_survey(parser, bars))), False)
        return least

    def check_missed(self, parser, bars, trees):
        paper = missed_paper(parser, bars)
        self.assertIs(is_missed_paper(parser, bars, paper), True)
        missed = [tree for tree in trees if not plain_labels.broken(bars.bars, tree)
                  and parser.tree(plain_trees.text(tree)) != tree]
        if paper[0] == "kept":
            self.assertEqual(missed, [])
            self.assertIs(is_filter_survey(parser.table, bars, paper[1]), True)
        else:
            self.assertEqual(plain_labels.broken(bars.bars, paper[1]), ())
            self.assertNotEqual(parser.tree(plain_trees.text(paper[1])), paper[1])
            self.assertIs(is_missed_paper(parser, bars, ("kept", filter_survey(parser.table, bars))), False)
        for tree in missed[:3]:
            self.assertIs(is_missed_paper(parser, bars, ("missed", tree)), True)
        return paper[0]

    def test_resolutions_that_are_exact(self):
        chooser = random.Random(29)
        seen = {True: 0, False: 0}
        for grammar in [EDGES] + told_grammars():
            for bars in some_filters(grammar, chooser, 3):
                table = Table(grammar, chooser.choice(KINDS))
                told = can_be_exact(table, bars)
                seen[told] += 1
                least = least_resolution(table, Wishes(bars))
                if least is None:
                    self.assertIs(told, False)
                    continue
                self.assertIs(is_exact(Parser(table, least), bars), told)
                # Each resolution that builds all that the filter allows builds all that the least one builds.
                for resolution in (all_of(table), Levels()(table), {**all_of(table), **least}):
                    parser = Parser(table, resolution)
                    if missed_paper(parser, bars)[0] == "kept":
                        text = least_beyond(Parser(table, least), bars)
                        self.assertTrue(text is None or parser.tree(text) == Parser(table, least).tree(text))
                        self.assertTrue(told or not is_exact(parser, bars))
        self.assertGreater(min(seen.values()), 10, seen)


class TestEdges(unittest.TestCase):
    def test_usual(self):
        for kind in KINDS:
            self.assertEqual([is_exact(calm_parser(kind), USUAL), can_be_exact(Table(SUMS, kind), USUAL),
                              least_beyond(calm_parser(kind), USUAL)], [True, True, None])
        parser = calm_parser()
        self.assertEqual([is_exact(parser, bars) for bars in (Filter(), USUAL - Filter(USUAL.bars[:1]))], [False, False])
        for at in range(6):
            self.assertIs(is_exact(parser, Filter(USUAL.bars[:at] + USUAL.bars[at + 1:])), False)

    def test_filters_without_bars(self):
        for grammar, kind, wanted in ((ELSE, "lalr", False), (PAIRS, "lalr", False), (PAIRS, "lr1", True), (NEST, "lalr", False)):
            table = Table(grammar, kind)
            self.assertIs(can_be_exact(table, Filter()), wanted)
            parser = Parser(table, all_of(table))
            self.assertEqual([least_beyond(parser, Filter()), within_paper(parser, Filter())[0]], [None, "within"])
            self.assertIs(is_exact(parser, Filter()), wanted)

    def test_no_tree_at_all(self):
        inner = Grammar.from_lines("one: S -> a T", "two: T -> b")
        nothing = Filter.children(("one", 1, "two"))
        table = Table(inner)
        empty, full = Parser(table, {}), Parser(table, all_of(table))
        self.assertEqual([can_be_exact(table, nothing), is_exact(empty, nothing), is_exact(full, nothing)], [True, True, False])
        self.assertEqual([missed_paper(empty, nothing)[0], missed_paper(empty, Filter())], ["kept", ("missed", ("one", ("a", ("two", ("b",)))))])
        self.assertEqual([within_paper(empty, nothing)[0], within_paper(full, nothing)], ["within", ("beyond", ("a", "b"))])
        self.assertIs(is_within_paper(empty, nothing, ("within", ({(0, "S", "$", (), (), ()): ()}, ()))), True)
        self.assertIs(is_missed_paper(full, nothing, ("kept", filter_survey(table, nothing))), True)

    def test_texts_without_terminals(self):
        grammar = Grammar.from_lines("s: S -> A A", "none: A ->", "some: A -> a")
        table = Table(grammar, "lr0")
        bars = Filter.children(("s", 1, "none"))
        parser = Parser(table, all_of(table))
        self.assertEqual([least_beyond(parser, bars), within_paper(parser, bars)], [(), ("beyond", ())])
        self.assertIs(is_within_paper(parser, bars, ("beyond", ())), True)
        self.assertIs(is_within_paper(parser, Filter(), ("beyond", ())), False)

    def test_parsers_that_do_not_accept(self):
        for kind in KINDS:
            resolution = {cell: action for cell, action in calm_parser(kind).resolution.items() if action != "accept"}
            parser = Parser(Table(SUMS, kind), resolution)
            self.assertEqual([within_paper(parser, USUAL)[0], least_beyond(parser, USUAL)], ["within", None])
            self.assertEqual(missed_paper(parser, USUAL), ("missed", ("num", ("n",))))
            self.assertIs(is_exact(parser, USUAL), False)

    def test_just_sixty_terminals_and_more(self):
        for last, wanted in (("C C C", ("x",) * 40 + ("y",) * 5 + ("x",) * 15), ("C C C z", None)):
            grammar = Grammar.from_lines(*long_lines(last), "e: D -> y y y y y")
            parser = Parser(Table(grammar), all_of(Table(grammar)))
            bars = Filter.children(("c", 0, "e"))
            self.assertIs(is_exact(parser, bars), False)
            if wanted is not None:
                self.assertEqual([least_beyond(parser, bars), within_paper(parser, bars)], [wanted, ("beyond", wanted)])
                continue
            for call in (least_beyond, within_paper):
                with self.assertRaises(TooMany) as caught:
                    call(parser, bars)
                self.assertEqual(caught.exception.limit, 60)
            self.assertIs(is_within_paper(parser, bars, ("beyond", ("x",) * 61)), False)

    def test_just_two_hundred_nodes_and_more(self):
        grammar = deep_grammar("C")
        paper = missed_paper(Parser(Table(grammar), {}), Filter())
        self.assertEqual((paper[0], plain_trees.node_count(paper[1])), ("missed", 200))
        grammar = deep_grammar("C D")
        parser = Parser(Table(grammar), {})
        with self.assertRaises(TooMany) as caught:
            missed_paper(parser, Filter())
        self.assertEqual(caught.exception.limit, 200)
        self.assertIs(is_exact(parser, Filter()), False)
        self.assertIs(is_missed_paper(Parser(Table(SUMS), {}), Filter(), ("missed", chain_of(200))), True)
        self.assertIs(is_missed_paper(Parser(Table(SUMS), {}), Filter(), ("missed", chain_of(201))), False)

    def test_trees_of_more_than_two_hundred_nodes_beyond(self):
        grammar = Grammar.from_lines("a: S -> A S", "b: S -> x", "z: S -> z", "c: A -> B", "d: B -> C", "e: C -> D",
                                     "f: D -> E", "g: E -> y")
        parser = Parser(Table(grammar), all_of(Table(grammar)))
        bars = Filter((("right", "a", 1, "z"),))
        self.assertEqual(least_beyond(parser, bars), ("y", "z"))
        text = ("y",) * 59 + ("z",)
        self.assertEqual(plain_trees.node_count(parser.tree(text)), 59 * 6 + 1)
        self.assertIs(is_within_paper(parser, bars, ("beyond", text)), True)
        self.assertIs(is_within_paper(parser, bars, ("beyond", ("y",) * 59 + ("x",))), False)
        # Each text that is beyond has a tree with more than 200 nodes.
        grammar = Grammar.from_lines("s: S -> U U U U U", "u: U -> C C C C C", "c: C -> D N N N N", "n: N ->",
                                     "d: D -> N x N", "e: D -> N y N")
        parser = Parser(Table(grammar), all_of(Table(grammar)))
        bars = Filter.children(("c", 0, "e"))
        least = least_beyond(parser, bars)
        self.assertEqual((least, plain_trees.node_count(parser.tree(least))), (("x",) * 24 + ("y",), 206))
        self.assertIs(is_within_paper(parser, bars, within_paper(parser, bars)), True)

    def test_too_many_spots(self):
        grammar, bars = wide_filter(9)
        table = Table(grammar)
        parser = Parser(table, all_of(table))
        for call in (within_paper, least_beyond, missed_paper, is_exact):
            with self.assertRaises(TooMany) as caught:
                call(parser, bars)
            self.assertEqual(caught.exception.limit, 20000)
        with self.assertRaises(TooMany):
            can_be_exact(table, bars)
        # The survey by a parser without actions is small, the one by the filter is not.
        empty = Parser(table, {})
        self.assertEqual([within_paper(empty, bars)[0], least_beyond(empty, bars)], ["within", None])
        for call in (missed_paper, is_exact):
            with self.assertRaises(TooMany):
                call(empty, bars)
        for judge in (is_within_paper, is_missed_paper):
            self.assertIs(judge(parser, bars, ("within", ({}, ()))), False)
            self.assertIs(judge(parser, bars, ("kept", ({}, ()))), False)
        self.assertIs(is_missed_paper(empty, bars, ("missed", ("num", ("n",)))), True)


class TestJudges(unittest.TestCase):
    def test_greater_surveys_are_papers_if_nothing_barred_is_used(self):
        parser = calm_parser()
        survey = parser_survey(parser, USUAL)
        rule = plain_surveys.ByFilter(parser.table, USUAL.bars, parser.resolution)
        spot = (6, "E", "$", ("plus",), (), ())
        # A spot more that is not used, and then a first that makes a barred chain used.
        other = (1, "E", "n", ("plus",), (), ())
        more = plain_surveys.closure(rule, {other: ("n",)}, (other,))
        self.assertGreater(len(more[1]), len(survey[1]))
        self.assertIs(is_within_paper(parser, USUAL, ("within", more)), True)
        self.assertIn(spot, survey[1])
        table = parser.table
        wrong = Parser(table, {**parser.resolution, (8, "+"): "shift"})
        self.assertIs(is_within_paper(wrong, USUAL, ("within", parser_survey(wrong, USUAL))), False)

    def test_whole_chains_that_are_not_used(self):
        # A whole chain of a barred production stands at a spot of the survey, but its first does not go with what
        # is ahead of it. So it is not used, and the survey is a paper all the same.
        grammar = Grammar.from_lines("one: S -> A B", "two: A -> a", "bee: B -> b", "cee: B -> c")
        table = Table(grammar)
        bars = Filter.children(("one", 1, "cee"))
        parser = Parser(table, {cell: row[0] for cell, row in table.cells.items() if cell != (table.walk(("a",)), "c")})
        word, survey = within_paper(parser, bars)
        rule = plain_surveys.ByFilter(table, bars.bars, parser.resolution)
        (spot,) = [spot for spot in survey[1] if spot[1] == "B"]
        self.assertEqual([word, survey[0][spot], spot[3]], ["within", ("b", "c"), ("cee",)])
        self.assertEqual([chain[0] for chain in plain_surveys.chains(rule, spot, "cee", survey[0])], [True])
        self.assertIs(is_within_paper(parser, bars, (word, survey)), True)
        # With a first more at the spot of A it is used.
        (ahead,) = [spot for spot in survey[0] if spot[1:3] == ("A", "c")]
        more = plain_surveys.closure(rule, {**survey[0], ahead: ("a",)})
        self.assertIs(is_parser_survey(parser, bars, more), True)
        self.assertIs(is_within_paper(parser, bars, (word, more)), False)
        self.assertEqual(least_beyond(Parser(table, all_of(table)), bars), ("a", "c"))

    def test_values_near_to_papers(self):
        parser = calm_parser()
        survey = parser_survey(parser, USUAL)
        allowed = filter_survey(parser.table, USUAL)
        near = ODD + [("within",), ("within", survey, None), ["within", survey], ("within", list(survey)), ("within", None),
                      ("Within", survey), (True, survey), (("within",), survey), ("within", (survey[0], ())), ("within", ({}, ())),
                      ("beyond", survey), ("beyond", ("n",)), ("beyond", ("n", "+", "n")), ("beyond", ()), ("beyond", None),
                      ("beyond", "n"), ("beyond", ("x",)), ("beyond", ["n"]), ("missed", ("n",)), ("within", ()), (survey, "within")]
        for value in near:
            self.assertIs(is_within_paper(parser, USUAL, value), False, value)
        self.assertIs(is_within_paper(parser, USUAL, ("within", survey)), True)
        near = ODD + [("kept",), ("kept", allowed, None), ["kept", allowed], ("kept", list(allowed)), ("kept", None), ("Kept", allowed),
                      (False, allowed), ("kept", (allowed[0], ())), ("kept", ({}, ())), ("missed", allowed), ("missed", comb_of(3)),
                      ("missed", ("neg", ("-", comb_of(3)))), ("missed", None), ("missed", ("num", ("x",))), ("missed", ["num", ["n"]]),
                      ("missed", ()), ("within", allowed)]
        for value in near:
            self.assertIs(is_missed_paper(parser, USUAL, value), False, value)
        self.assertIs(is_missed_paper(parser, USUAL, ("kept", allowed)), True)
        missed = ("neg", ("-", comb_of(3)))
        self.assertIs(is_missed_paper(parser, Filter(), ("missed", missed)), True)
        turned = {((False,) + spot[1:] if spot[0] == 0 else spot): row for spot, row in survey[0].items()}
        self.assertEqual(turned, survey[0])
        self.assertIs(is_within_paper(parser, USUAL, ("within", (turned, survey[1]))), False)

    def test_trees_of_other_nonterminals_are_not_missed(self):
        parser = Parser(Table(NEST), {})
        self.assertIs(is_missed_paper(parser, Filter(), ("missed", ("base", ("c",)))), True)
        self.assertIs(is_missed_paper(parser, Filter(), ("missed", ("none", ()))), False)


class TestErrors(unittest.TestCase):
    def test_the_first_that_applies(self):
        table = Table(ELSE)
        parser = Parser(table, {})
        calls = (within_paper, least_beyond, missed_paper, is_exact, lambda one, two: is_within_paper(one, two, None),
                 lambda one, two: is_missed_paper(one, two, None))
        for wrong in ODD + [table, Levels(), Filter(), Wishes()]:
            for call in calls:
                with self.assertRaises(InvalidOperation):
                    call(wrong, None)
            if wrong is not table:
                with self.assertRaises(InvalidOperation):
                    can_be_exact(wrong, None)
        for wrong in ODD + [table, Wishes(), USUAL, USUAL.bars, None, Wishes(DANGLING)]:
            for call in calls:
                with self.assertRaises(InvalidFilter):
                    call(parser, wrong)
            with self.assertRaises(InvalidFilter):
                can_be_exact(table, wrong)

    def test_nothing_is_changed(self):
        parser = calm_parser()
        paper = within_paper(parser, USUAL)
        paper[1][0].clear()
        self.assertNotEqual(within_paper(parser, USUAL), paper)
        kept = missed_paper(parser, USUAL)
        before = dict(kept[1][0])
        self.assertIs(is_missed_paper(parser, USUAL, kept), True)
        self.assertEqual(kept[1][0], before)
        self.assertIs(is_missed_paper(Parser.by(ELSE, Levels()), DANGLING, ("missed", FAR)), False)
        self.assertIs(is_missed_paper(Parser.by(ELSE, Levels()), Filter(), ("missed", FAR)), True)


if __name__ == "__main__":
    unittest.main()
