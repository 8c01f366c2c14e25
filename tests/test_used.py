"""What is used of surveys, least ones and others, against a plain walk over all chains [0.25] [0.28] [0.29]."""

import random
import unittest

from chosentrees.compare.compared import is_inclusion_paper
from chosentrees.wish.exact import is_within_paper
from chosentrees.wish.labels import demands
from chosentrees.wish.rules import FilterRule, PairRule
from chosentrees.wish.surveys import pair_survey, parser_survey
from chosentrees.wish.used import used_chains

import plain_surveys
from small import some_texts, told_grammars
from small_filters import EDGES, some_filters
from test_survey_judges import changed, greater
from test_surveys import some_parsers


def used(rule, firsts, spots):
    """All used chains of a survey: (spot, name, firsts of the symbols, spots of the parts)."""
    if rule.whole not in spots or rule.whole not in firsts:
        return set()
    waiting = [(rule.whole, first) for first in firsts[rule.whole]]
    met, found = set(waiting), set()
    while waiting:
        spot, first = waiting.pop()
        for name in rule.grammar.of(rule.nonterminal(spot)):
            body = rule.grammar[name][2]
            for is_whole, row, parts in plain_surveys.chains(rule, spot, name, firsts):
                if is_whole and plain_surveys.first_of(row) == first:
                    found.add((spot, name, row, parts))
                    inner = [each for symbol, each in zip(body, row) if symbol[0].isupper()]
                    for pair in zip(parts, inner):
                        if pair not in met:
                            met.add(pair)
                            waiting.append(pair)
    return found


def demands_of(other, rule, spot, name):
    """The demands of the chains of a production at a spot of two parsers, in the table of the second one."""
    body = rule.grammar[name][2]
    found = [((rule.other_walk(spot, body), rule.after(spot)), name)]
    return found + [((rule.other_walk(spot, body[:at]), symbol), "shift") for at, symbol in enumerate(body) if not symbol[0].isupper()]


class TestUsedChains(unittest.TestCase):
    def surveys(self, rule, least, chooser, states):
        """The least survey, greater ones, and such that are perhaps not closed."""
        more = [greater(rule, least, chooser, states) for _ in range(3)]
        return [least] + more + [changed(chooser.choice([least] + more), chooser, rule.grammar.terminals) for _ in range(3)]

    def check(self, rule, plain, survey):
        """What is used is the same."""
        found = {(spot, first, layers.production()) for spot, first, layers in used_chains(rule, survey)}
        wanted = {(spot, plain_surveys.first_of(row), name) for spot, name, row, parts in used(plain, *survey)}
        self.assertEqual(found, wanted)

    def test_by_parsers(self):
        chooser = random.Random(137)
        seen = {True: 0, False: 0}
        for grammar in [EDGES] + told_grammars():
            for parser in chooser.sample(some_parsers(grammar, chooser, 2), 3):
                for bars in some_filters(grammar, chooser, 1):
                    plain = plain_surveys.ByFilter(parser.table, bars.bars, parser.resolution)
                    rule = FilterRule(parser.table, bars.bars, parser.resolution)
                    for survey in self.surveys(plain, parser_survey(parser, bars), chooser, len(parser.table)):
                        is_closed = plain_surveys.is_closed(plain, *survey)
                        if is_closed:
                            self.check(rule, plain, survey)
                        wanted = is_closed and not any(name in spot[3] + spot[4] + spot[5] for spot, name, row, parts in used(plain, *survey))
                        self.assertIs(is_within_paper(parser, bars, ("within", survey)), wanted)
                        seen[wanted] += 1
        self.assertGreater(min(seen.values()), 50, seen)

    def test_by_pairs(self):
        chooser = random.Random(139)
        seen = {True: 0, False: 0}
        for grammar in [EDGES] + told_grammars():
            for _ in range(3):
                parser, other = chooser.sample(some_parsers(grammar, chooser, 1), 2)
                plain, rule = plain_surveys.ByPair(parser, other), PairRule(parser, other)
                accept = ((other.table.walk((grammar.start,)), "$"), "accept")
                for survey in self.surveys(plain, pair_survey(parser, other), chooser, len(parser.table)):
                    is_closed = plain_surveys.is_closed(plain, *survey)
                    if is_closed:
                        self.check(rule, plain, survey)
                    told = [each for spot, name, row, parts in used(plain, *survey) for each in demands_of(other, plain, spot, name)]
                    told += [accept] if survey[1] else []
                    wanted = is_closed and all(other.resolution.get(cell) == action for cell, action in told)
                    self.assertIs(is_inclusion_paper(parser, other, ("inside", survey)), wanted)
                    seen[wanted] += 1
        self.assertGreater(min(seen.values()), 50, seen)

    def test_built_trees_have_used_chains(self):
        chooser = random.Random(149)
        for grammar in [EDGES] + told_grammars():
            parser, other = chooser.sample(some_parsers(grammar, chooser, 1), 2)
            plain = plain_surveys.ByPair(parser, other)
            survey = pair_survey(parser, other)
            pairs = {(spot, plain_surveys.first_of(row)) for spot, name, row, parts in used(plain, *survey)}
            for text in some_texts(grammar, 5, 200):
                tree = parser.tree(text)
                if tree is not None:
                    self.assertLessEqual(set(plain_surveys.tree_spots(plain, tree)), pairs)
                    self.assertTrue(all(parser.resolution[cell] == action for cell, action in demands(parser.table, tree)))


if __name__ == "__main__":
    unittest.main()
