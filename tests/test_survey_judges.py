"""What is a survey, and what is none [0.5] [0.6] [0.25]; wrong inputs of the survey functions."""

import random
import unittest

from chosentrees.base.grammars import Grammar
from chosentrees.errors import InvalidFilter, InvalidOperation, UnknownName
from chosentrees.run.parsers import Parser
from chosentrees.table.levels import Levels
from chosentrees.table.tables import KINDS, Table
from chosentrees.wish.filters import Filter, Wishes
from chosentrees.wish.surveys import (chains, filter_demands, filter_survey, is_filter_survey, is_pair_survey,
                                      is_parser_survey, pair_survey, parser_survey)

import plain_surveys
from plain_surveys import ByFilter, ByPair
from samples import DANGLING, ELSE, NEST, ODD, PAIRS, SUMS, USUAL
from small_filters import EDGES, some_filters
from test_surveys import some_parsers

WHOLE = (0, "S", "$", (), (), ())
NOT_SPOTS = [value for value in ODD] + [
    (0, "S", "$", (), ()), (0, "S", "$", (), (), (), ()), [0, "S", "$", (), (), ()], (True, "S", "$", (), (), ()),
    (False, "S", "$", (), (), ()), (7, "S", "$", (), (), ()), (-1, "S", "$", (), (), ()), (0, "x", "$", (), (), ()),
    (0, "T", "$", (), (), ()), (0, "S", "S", (), (), ()), (0, "S", "", (), (), ()), (0, "S", "y", (), (), ()),
    (0, "S", None, (), (), ()), (0, "S", "$", [], (), ()), (0, "S", "$", ("cond", "both"), (), ()),
    (0, "S", "$", ("cond", "cond"), (), ()), (0, "S", "$", (), ("none",), ()), (0, "S", "$", (), (), (None,)),
    (0, "S", "$", (), (), "cond"), (0, 0, "S", "$"), ("0", "S", "$", (), (), ()), (0, ("S",), "$", (), (), ())]


def greater(rule, survey, chooser, states):
    """A greater closed survey: with more firsts, keys and spots, and what they need."""
    firsts, spots = {spot: set(row) for spot, row in survey[0].items()}, set(survey[1])
    words = rule.grammar.terminals + ("",)
    for _ in range(3):
        spot = chooser.choice(sorted(firsts))
        odd = (chooser.randrange(states),) + spot[1:]
        firsts.setdefault(odd, set()).add(chooser.choice(words))
        firsts[spot].add(chooser.choice(words))
        spots.add(chooser.choice([spot, odd]))
    return plain_surveys.closure(rule, firsts, spots)


def changed(survey, chooser, terminals):
    """The survey with one thing taken away, added or exchanged."""
    firsts, spots = dict(survey[0]), list(survey[1])
    word = chooser.choice(("spot", "key", "first", "more", "other", "twice", "new"))
    spot = chooser.choice(sorted(firsts))
    if word == "spot" and spots:
        spots.remove(chooser.choice(spots))
    elif word == "key":
        del firsts[spot]
    elif word == "first" and firsts[spot]:
        firsts[spot] = tuple(each for each in firsts[spot] if each != chooser.choice(firsts[spot]))
    elif word == "more":
        firsts[spot] = tuple(sorted(set(firsts[spot]) | {chooser.choice(terminals + ("",))}))
    elif word == "other":
        firsts[spot] = tuple(sorted(chooser.sample(terminals + ("",), min(2, len(terminals)))))
    elif word == "new":
        spots = sorted(set(spots) | {spot})
    elif spots:
        spots[chooser.randrange(len(spots))] = chooser.choice(sorted(firsts))
        spots = sorted(set(spots))
    return firsts, tuple(spots)


class TestClosed(unittest.TestCase):
    def check(self, rule, judge, least, states):
        chooser = random.Random(1)
        self.assertIs(judge(least), True)
        shuffled = sorted(least[0], reverse=True)
        self.assertIs(judge(({spot: least[0][spot] for spot in shuffled}, least[1])), True)
        for _ in range(4):
            more = greater(rule, least, chooser, states)
            self.assertIs(judge(more), True)
            for start in (least, more):
                for _ in range(8):
                    other = changed(start, chooser, rule.grammar.terminals)
                    self.assertIs(judge(other), plain_surveys.is_closed(rule, *other))
        # The least one is contained in each closed one, so that nothing of it can be left out.
        for spot in least[0]:
            self.assertIs(judge(({each: row for each, row in least[0].items() if each != spot}, least[1])), False)
            for first in least[0][spot]:
                fewer = {**least[0], spot: tuple(each for each in least[0][spot] if each != first)}
                self.assertIs(judge((fewer, least[1])), False)
        for spot in least[1]:
            self.assertIs(judge((least[0], tuple(each for each in least[1] if each != spot))), False)

    def test_by_filters(self):
        chooser = random.Random(2)
        for grammar in (EDGES, SUMS, ELSE, NEST, PAIRS):
            for bars in some_filters(grammar, chooser, 1):
                table = Table(grammar, chooser.choice(KINDS))
                self.check(ByFilter(table, bars.bars), lambda value: is_filter_survey(table, bars, value),
                           filter_survey(table, bars), len(table))

    def test_by_parsers(self):
        chooser = random.Random(3)
        for grammar in (EDGES, SUMS, ELSE, NEST, PAIRS):
            for bars in some_filters(grammar, chooser, 1):
                parser = chooser.choice(some_parsers(grammar, chooser, 1))
                self.check(ByFilter(parser.table, bars.bars, parser.resolution),
                           lambda value: is_parser_survey(parser, bars, value), parser_survey(parser, bars),
                           len(parser.table))

    def test_by_pairs(self):
        chooser = random.Random(4)
        for grammar in (EDGES, SUMS, ELSE, NEST, PAIRS):
            parser, other = chooser.sample(some_parsers(grammar, chooser, 1), 2)
            self.check(ByPair(parser, other), lambda value: is_pair_survey(parser, other, value),
                       pair_survey(parser, other), len(parser.table))


class TestForm(unittest.TestCase):
    def test_other_forms_of_filter_surveys(self):
        table = Table(ELSE)
        firsts, spots = filter_survey(table, Filter())
        wrong = ODD + [None, (), (firsts,), (firsts, spots, ()), [firsts, spots], (firsts, list(spots)), (spots, firsts),
                       (firsts, spots[::-1]), (firsts, spots + spots[-1:]), (firsts, {spot: True for spot in spots}),
                       (list(firsts.items()), spots), ({spot: list(row) for spot, row in firsts.items()}, spots),
                       ({spot: row[::-1] for spot, row in firsts.items()}, spots), ({**firsts, WHOLE: ("if", "if", "x")}, spots),
                       ({**firsts, WHOLE: ("if", "x", "y")}, spots), ({**firsts, WHOLE: ("$", "if", "x")}, spots),
                       ({**firsts, WHOLE: ("S", "if", "x")}, spots), ({**firsts, WHOLE: None}, spots),
                       ({**firsts, WHOLE: "if"}, spots), ({**firsts, WHOLE: ("if", "x", None)}, spots),
                       ({**firsts, WHOLE: (True, "if", "x")}, spots)]
        wrong += [({**firsts, spot: ()}, spots) for spot in NOT_SPOTS if not has_unhashable(spot)]
        wrong += [(firsts, spots + (spot,)) for spot in NOT_SPOTS]
        for value in wrong:
            self.assertIs(is_filter_survey(table, Filter(), value), False, value)
            self.assertIs(is_parser_survey(Parser.by(ELSE, Levels()), Filter(), value), False, value)
        self.assertIs(is_filter_survey(table, Filter(), ({**firsts, (1, "S", "x", (), (), ()): ()}, spots)), False)
        # No body leads on from state 6.
        self.assertIs(is_filter_survey(table, Filter(), ({**firsts, (6, "S", "x", (), (), ()): ()}, spots)), True)
        self.assertIs(is_filter_survey(table, Filter(), ({**firsts, WHOLE: ("", "if", "x")}, spots)), True)

    def test_true_is_not_one(self):
        table = Table(ELSE)
        firsts, spots = filter_survey(table, Filter())
        turned = {((True,) + spot[1:] if spot[0] == 1 else spot): row for spot, row in firsts.items()}
        self.assertEqual(turned, firsts)
        self.assertIs(is_filter_survey(table, Filter(), (turned, spots)), False)
        self.assertIs(is_filter_survey(table, Filter(), (firsts, tuple((True,) + spot[1:] if spot[0] == 1 else spot
                                                                       for spot in spots))), False)
        parser = Parser.by(ELSE, Levels())
        firsts, spots = pair_survey(parser, parser)
        for at in (0, 1):
            other = tuple(spot[:at] + (True,) + spot[at + 1:] if spot[at] == 1 else spot for spot in spots)
            self.assertIs(is_pair_survey(parser, parser, (firsts, other)), False)

    def test_spots_of_pairs(self):
        parser = Parser.by(ELSE, Levels())
        firsts, spots = pair_survey(parser, parser)
        for spot in ODD + [(0, "S", "$"), (0, 0, "S", "$", ()), [0, 0, "S", "$"], (7, 0, "S", "$"), (0, 7, "S", "$"),
                           (0, -1, "S", "$"), (0, 0, "x", "$"), (0, 0, "S", "S"), (0, 0, "S", ""), (0, False, "S", "$"), WHOLE]:
            self.assertIs(is_pair_survey(parser, parser, (firsts, spots + (spot,))), False)
            if not has_unhashable(spot):
                self.assertIs(is_pair_survey(parser, parser, ({**firsts, spot: ()}, spots)), False)
        # The second parser has more states than the first one.
        exact = Parser.by(ELSE, Levels(), kind="lr1")
        self.assertIs(is_pair_survey(parser, exact, plain_surveys.closure(
            ByPair(parser, exact), {(0, len(exact.table) - 1, "S", "$"): ()})), True)
        self.assertIs(is_pair_survey(exact, parser, (firsts, spots)), False)

    def test_nothing_is_changed(self):
        table = Table(ELSE)
        firsts, spots = filter_survey(table, DANGLING)
        copy = dict(firsts)
        list(chains(table, DANGLING, WHOLE, "both", firsts))
        filter_demands(table, DANGLING, (firsts, spots))
        self.assertEqual((is_filter_survey(table, DANGLING, (firsts, spots)), firsts, list(firsts)), (True, copy, list(copy)))
        filter_survey(table, DANGLING)[0].clear()
        self.assertEqual(filter_survey(table, DANGLING)[0], copy)


def has_unhashable(value):
    """Whether the value cannot be a key."""
    try:
        hash(value)
    except TypeError:
        return True
    return False


class TestErrors(unittest.TestCase):
    def test_tables_parsers_and_filters(self):
        table, parser = Table(ELSE), Parser.by(ELSE, Levels())
        for wrong in ODD + [Levels(), Filter(), Wishes()]:
            for call in (lambda: filter_survey(wrong, None), lambda: is_filter_survey(wrong, None, None),
                         lambda: next(chains(wrong, None, None, None, None)), lambda: filter_demands(wrong, None, None),
                         lambda: parser_survey(wrong, None), lambda: is_parser_survey(wrong, None, None),
                         lambda: pair_survey(wrong, None), lambda: is_pair_survey(wrong, None, None),
                         lambda: pair_survey(parser, wrong), lambda: is_pair_survey(parser, wrong, None)):
                with self.assertRaises(InvalidOperation):
                    call()
        for wrong in ODD + [USUAL, (), USUAL.bars, Wishes(), None, table]:
            for call in (lambda: filter_survey(table, wrong), lambda: is_filter_survey(table, wrong, None),
                         lambda: next(chains(table, wrong, None, None, None)), lambda: filter_demands(table, wrong, None),
                         lambda: parser_survey(parser, wrong), lambda: is_parser_survey(parser, wrong, None)):
                with self.assertRaises(InvalidFilter):
                    call()
        for call in (filter_survey, lambda one, two: is_filter_survey(one, two, None)):
            with self.assertRaises(InvalidOperation):
                call(parser, Filter())
        for call in (parser_survey, lambda one, two: is_parser_survey(one, two, None)):
            with self.assertRaises(InvalidOperation):
                call(table, Filter())

    def test_pairs_of_other_grammars(self):
        turned = Grammar(ELSE.productions[::-1])
        wider = ELSE + ("loop", "S", ("while", "S"))
        one = Parser.by(ELSE, Levels())
        for other, fine in ((Parser.by(SUMS, Levels()), False), (Parser.by(turned, Levels()), True),
                            (Parser.by(wider, Levels()), True)):
            if fine:
                self.assertIs(is_pair_survey(one, other, pair_survey(one, other)), True)
            else:
                for call in (lambda: pair_survey(one, other), lambda: is_pair_survey(one, other, None)):
                    with self.assertRaises(InvalidOperation):
                        call()
        with self.assertRaises(InvalidOperation):
            pair_survey(Parser.by(wider, Levels()), one)

    def test_chains(self):
        table = Table(ELSE)
        firsts, spots = filter_survey(table, Filter())
        for wrong in NOT_SPOTS:
            with self.assertRaises(InvalidOperation):
                next(chains(table, Filter(), wrong, None, None))
        for wrong in ODD + ["S", "x", "accept", "none", ("act",), ELSE["act"]]:
            with self.assertRaises(UnknownName) as caught:
                next(chains(table, Filter(), WHOLE, wrong, None))
            self.assertIs(caught.exception.wanted, wrong)
        with self.assertRaises(UnknownName):
            next(chains(Table(PAIRS), Filter(), (0, "S", "$", (), (), ()), "ca", {}))
        for wrong in [value for value in ODD if value != {}] + [
                {**firsts, WHOLE: ["if"]}, {**firsts, WHOLE: ("x", "if")}, {**firsts, WHOLE: ("$",)}, {0: ()}, (firsts,),
                {**firsts, (True, "S", "$", (), (), ("act",)): ()}]:
            with self.assertRaises(InvalidOperation):
                next(chains(table, Filter(), WHOLE, "act", wrong))
        self.assertEqual(list(chains(table, Filter(), WHOLE, "cond", {})), [])
        self.assertEqual(list(chains(table, Filter(), WHOLE, "act", {})),
                         [("x", (), (((0, "x"), "shift"), ((2, "$"), "act")))])

    def test_demands_of_no_survey(self):
        table = Table(ELSE)
        firsts, spots = filter_survey(table, Filter())
        for wrong in ODD + [(firsts, ()), (firsts, spots[:-1]), ({}, ()), (firsts, spots[::-1]), [firsts, spots]]:
            with self.assertRaises(InvalidOperation):
                filter_demands(table, Filter(), wrong)


if __name__ == "__main__":
    unittest.main()
