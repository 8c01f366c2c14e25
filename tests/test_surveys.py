"""Surveys by filters, parsers and pairs of parsers, against plain ones [0.23] to [0.25]."""

import random
import unittest

from chosentrees.base.grammars import Grammar
from chosentrees.base.trees import all_trees
from chosentrees.errors import TooMany
from chosentrees.run.parsers import Parser
from chosentrees.table.levels import Levels
from chosentrees.table.tables import KINDS, Table
from chosentrees.wish import surveys
from chosentrees.wish.closing import NodeMeasure, NoMarks, Search
from chosentrees.wish.filters import Filter
from chosentrees.wish.labels import demands
from chosentrees.wish.rules import FilterRule
from chosentrees.wish.surveys import (chains, filter_demands, filter_survey, is_filter_survey, is_pair_survey,
                                      is_parser_survey, pair_survey, parser_survey)

import plain_parsers
import plain_surveys
from plain_surveys import ByFilter, ByPair
from samples import ELSE, NEST, PAIRS, SUMS, USUAL
from small import all_grammars, some_texts, told_grammars
from small_filters import EDGES, some_filters


def wide_filter(many):
    """A grammar of so many signs, with a filter by which there are very many spots."""
    names = "abcdefghi"[:many]
    grammar = Grammar.from_lines("num: E -> n", *[f"{name}: E -> E {sign} E" for name, sign in zip(names, "+*/^=<>!?")])
    turned = names[1:] + names[:1]
    bars = [("left", name, 0, inner) for name, inner in zip(names, turned)]
    return grammar, Filter(tuple(bars + [("right", name, 2, inner) for name, inner in zip(names, turned)]))


def some_parsers(grammar, chooser, many):
    """Some parsers of a grammar, of all kinds."""
    return [Parser(table, resolution) for table in [Table(grammar, kind) for kind in KINDS]
            for resolution in plain_parsers.resolutions(table, chooser, many)]


class TestByFilters(unittest.TestCase):
    def test_against_plain_surveys(self):
        chooser = random.Random(5)
        for grammar in [EDGES] + told_grammars() + all_grammars(every=15)[24:]:
            for bars in some_filters(grammar, chooser, 2):
                kind = chooser.choice(KINDS)
                table = Table(grammar, kind)
                rule = ByFilter(table, bars.bars)
                made = filter_survey(table, bars)
                self.assertEqual(made, plain_surveys.closure(rule), (grammar.lines, kind, bars.bars))
                self.assertEqual((list(made[0]), list(made[1])), (sorted(made[0]), sorted(made[1])))
                self.assertIs(is_filter_survey(table, bars, made), True)
                self.check_trees(table, bars, rule, made)

    def check_trees(self, table, bars, rule, made):
        told = set(filter_demands(table, bars, made))
        plain = {each for spot in made[1] for name in table.grammar.of(spot[1])
                 if any(chain[0] for chain in plain_surveys.chains(rule, spot, name, made[0]))
                 for each in rule.demands(spot, name)}
        if made[1]:
            plain.add(((table.walk((table.grammar.start,)), "$"), "accept"))
        self.assertEqual(told, plain)
        for text in some_texts(table.grammar, 5, 40):
            for tree in list(all_trees(table.grammar, text))[:10]:
                if bars.allows(table.grammar, tree):
                    self.assertLessEqual(set(demands(table, tree)), told)
                    for spot, first in plain_surveys.tree_spots(rule, tree):
                        self.assertIn(spot, made[1])
                        self.assertIn(first, made[0][spot])

    def test_filters_without_trees(self):
        none = Filter.children(*[("neg", 1, name) for name in SUMS.names])
        firsts, spots = filter_survey(Table(SUMS), none)
        self.assertEqual((firsts[spots[0]], is_filter_survey(Table(SUMS), none, (firsts, spots))), (("n",), True))
        inner = Grammar.from_lines("one: S -> a T", "two: T -> b")
        bars = Filter.children(("one", 1, "two"))
        made = filter_survey(Table(inner), bars)
        self.assertEqual(made, ({(0, "S", "$", (), (), ()): (), (1, "T", "$", ("two",), (), ()): ()}, ()))
        self.assertEqual(filter_demands(Table(inner), bars, made), ())

    def test_very_many_spots(self):
        self.assertEqual(surveys.MAX_SPOTS, 20000)
        grammar, bars = wide_filter(9)
        table = Table(grammar)
        with self.assertRaises(TooMany) as caught:
            filter_survey(table, bars)
        self.assertEqual(caught.exception.limit, 20000)
        parser = Parser.by(grammar, Levels())
        with self.assertRaises(TooMany):
            parser_survey(Parser(table, {cell: row[0] for cell, row in table.cells.items()}), bars)
        self.assertIs(is_filter_survey(table, bars, ({}, ())), False)
        self.assertEqual(len(pair_survey(parser, parser)[0]) > 0, True)
        grammar, bars = wide_filter(6)
        made = filter_survey(Table(grammar), bars)
        self.assertGreater(len(made[1]), 1000)
        self.assertIs(is_filter_survey(Table(grammar), bars, made), True)

    def test_the_limit_itself(self):
        table = Table(SUMS)
        many = len(filter_survey(table, USUAL)[0])
        rule = FilterRule(table, USUAL.bars)
        self.assertEqual(Search(rule, many, NoMarks(), NodeMeasure()).firsts(), filter_survey(table, USUAL)[0])
        with self.assertRaises(TooMany) as caught:
            Search(rule, many - 1, NoMarks(), NodeMeasure())
        self.assertEqual(caught.exception.limit, many - 1)


class TestByParsers(unittest.TestCase):
    def test_against_plain_surveys(self):
        chooser = random.Random(6)
        for grammar in [EDGES] + told_grammars()[2:]:
            filters = list(some_filters(grammar, chooser, 2))
            for parser in chooser.sample(some_parsers(grammar, chooser, 2), 4):
                bars = chooser.choice(filters)
                rule = ByFilter(parser.table, bars.bars, parser.resolution)
                made = parser_survey(parser, bars)
                self.assertEqual(made, plain_surveys.closure(rule))
                self.assertIs(is_parser_survey(parser, bars, made), True)
                self.check_texts(parser, rule, made)

    def test_pairs_against_plain_surveys(self):
        chooser = random.Random(8)
        for grammar in [EDGES] + told_grammars()[2:]:
            for _ in range(4):
                parser, other = chooser.sample(some_parsers(grammar, chooser, 1), 2)
                rule = ByPair(parser, other)
                made = pair_survey(parser, other)
                self.assertEqual(made, plain_surveys.closure(rule))
                self.assertIs(is_pair_survey(parser, other, made), True)
                self.check_texts(parser, rule, made)

    def check_texts(self, parser, rule, made):
        for text in some_texts(parser.grammar, 5, 60):
            tree = parser.tree(text)
            if tree is not None:
                for spot, first in plain_surveys.tree_spots(rule, tree):
                    self.assertIn(spot, made[1])
                    self.assertIn(first, made[0][spot])

    def test_pairs_with_more_productions(self):
        wider = Grammar(ELSE.productions + (("loop", "S", ("while", "S")), ("skip", "S", ("T",)), ("semi", "T", (";",))))
        for kind in KINDS:
            one, two = Parser.by(ELSE, Levels(), kind="lr1"), Parser.by(wider, Levels(), kind=kind)
            made = pair_survey(one, two)
            self.assertEqual(made, plain_surveys.closure(ByPair(one, two)))
            self.assertIs(is_pair_survey(one, two, made), True)
            self.check_texts(one, ByPair(one, two), made)

    def test_parsers_that_do_not_accept(self):
        parser = Parser.by(ELSE, Levels())
        cells = {cell: action for cell, action in parser.resolution.items() if action != "accept"}
        made = parser_survey(Parser(Table(ELSE), cells), Filter())
        self.assertEqual((made[0], made[1]), (parser_survey(parser, Filter())[0], ()))
        none = Parser(Table(ELSE), {})
        self.assertEqual(parser_survey(none, Filter()), ({(0, "S", "$", (), (), ()): ()}, ()))
        self.assertEqual(pair_survey(none, parser), ({(0, 0, "S", "$"): ()}, ()))


class TestChains(unittest.TestCase):
    def test_against_plain_chains(self):
        chooser = random.Random(9)
        for grammar in [EDGES, SUMS, ELSE, NEST, PAIRS] + told_grammars()[8:20]:
            for bars in some_filters(grammar, chooser, 1):
                table = Table(grammar, chooser.choice(KINDS))
                rule = ByFilter(table, bars.bars)
                firsts = filter_survey(table, bars)[0]
                odd = [(chooser.randrange(len(table)),) + spot[1:] for spot in firsts]
                for spot in list(firsts) + odd:
                    for name in grammar.of(spot[1]):
                        for told in (firsts, {}, {each: ("",) + grammar.terminals[:2] for each in list(firsts)[::2]}):
                            told = {each: tuple(sorted(row)) for each, row in told.items()}
                            self.compare(table, bars, rule, spot, name, told)

    def compare(self, table, bars, rule, spot, name, firsts):
        made = list(chains(table, bars, spot, name, firsts))
        wanted = {(plain_surveys.first_of(row), met, rule.demands(spot, name))
                  for is_whole, row, met in plain_surveys.chains(rule, spot, name, firsts) if is_whole}
        self.assertEqual(sorted(made), sorted(wanted))

    def test_the_same_spots_by_different_firsts(self):
        # Behind A the next is the same for an empty B and for one that begins with what comes behind S.
        grammar = Grammar.from_lines("top: T -> S b", "one: S -> A B", "none: B ->", "some: B -> b", "fine: A ->", "ca: A -> a")
        table = Table(grammar)
        firsts = filter_survey(table, Filter())[0]
        spot = (0, "S", "b", (), (), ())
        made = list(chains(table, Filter(), spot, "one", firsts))
        self.assertEqual(sorted(row[0] for row in made), ["", "a", "b"])
        self.assertEqual(len(set(made)), len(made))
        self.compare(table, Filter(), ByFilter(table, ()), spot, "one", firsts)

    def test_told_spots_of_usual(self):
        table = Table(SUMS)
        firsts, spots = filter_survey(table, USUAL)
        self.assertEqual({spot[3] for spot in spots}, {(), ("plus",), ("plus", "times")})
        barred = (6, "E", "$", ("plus",), (), ())
        self.assertIn(barred, spots)
        self.assertEqual(list(chains(table, USUAL, barred, "plus", firsts)), [])
        self.assertEqual(len(list(chains(table, USUAL, barred, "times", firsts))), 2)


if __name__ == "__main__":
    unittest.main()
