"""Parsers compared, against what they build of all short texts [0.29]; stage 13."""

import itertools
import random
import unittest

from chosentrees.base.grammars import Grammar, renamed
from chosentrees.errors import InvalidGrammar, InvalidLevels, InvalidOperation, TooMany
from chosentrees.run.parsers import Parser
from chosentrees.compare.compared import (are_alike, comparison_paper, inclusion_paper, is_comparison_paper,
                                          is_inclusion_paper, kinds_alike, least_outside, least_parting)
from chosentrees.table.levels import Levels
from chosentrees.table.tables import KINDS, Table
from chosentrees.wish.filters import Filter
from chosentrees.wish.surveys import is_pair_survey, pair_survey

import plain_surveys
from plain_outcomes import Outcomes, long_lines, order
from samples import ELSE, FAR, NEAR, ODD, PAIRS, SUMS
from small import all_grammars, told_grammars
from small_filters import EDGES
from test_surveys import some_parsers

USUAL_LEVELS = Levels((("left", ("+",)), ("left", ("*",)), ("left", ("-",))))


def all_of(table):
    """The resolution with the first action of each cell."""
    return {cell: row[0] for cell, row in table.cells.items()}


def turned(grammar):
    """The same productions in another order, with the same start."""
    first = [row for row in grammar.productions if row[1] == grammar.start]
    rest = [row for row in grammar.productions if row[1] != grammar.start]
    return Grammar(tuple(first[::-1] + rest[::-1]))


class TestAgainstShortTexts(unittest.TestCase):
    def setUp(self):
        self.seen = {}

    def count(self, word):
        """Count what has been seen."""
        self.seen[word] = self.seen.get(word, 0) + 1

    def check_inclusion(self, one, other):
        least, wanted = least_outside(one.parser, other.parser), one.least_outside(other)
        if wanted is None and least is not None:
            self.assertGreater(len(least), one.most)
        else:
            self.assertEqual(least, wanted, (one.parser.grammar.lines, one.parser.resolution, other.parser.resolution))
        paper = inclusion_paper(one.parser, other.parser)
        self.assertIs(is_inclusion_paper(one.parser, other.parser, paper), True)
        self.assertEqual(paper[0], "inside" if least is None else "outside")
        if least is None:
            self.assertIs(is_pair_survey(one.parser, other.parser, paper[1]), True)
        else:
            self.assertNotEqual(one.parser.tree(least), None)
            self.assertNotEqual(one.parser.tree(least), other.parser.tree(least))
            self.assertIs(is_inclusion_paper(one.parser, other.parser, ("outside", least)), True)
            survey = pair_survey(one.parser, other.parser)
            self.assertIs(is_inclusion_paper(one.parser, other.parser, ("inside", survey)), False)
        for text in one.texts[:40]:
            told = text in one.trees and one.trees[text] != other.parser.tree(text)
            self.assertIs(is_inclusion_paper(one.parser, other.parser, ("outside", text)), told)
        self.count(paper[0])
        return least

    def check_comparison(self, one, other):
        texts = [self.check_inclusion(one, other), self.check_inclusion(other, one)]
        wanted = min([text for text in texts if text is not None], key=order, default=None)
        self.assertEqual([least_parting(one.parser, other.parser), least_parting(other.parser, one.parser)], [wanted, wanted])
        self.assertIs(are_alike(one.parser, other.parser), wanted is None)
        paper = comparison_paper(one.parser, other.parser)
        self.assertIs(is_comparison_paper(one.parser, other.parser, paper), True)
        self.assertEqual([paper[0], len(paper)], ["alike", 3] if wanted is None else ["parted", 2])
        turned_paper = paper[:1] + paper[:0:-1]
        self.assertIs(is_comparison_paper(other.parser, one.parser, turned_paper), True)
        for text in one.texts[:40]:
            told = one.trees.get(text) != other.trees.get(text)
            self.assertIs(is_comparison_paper(one.parser, other.parser, ("parted", text)), told)
        self.count(paper[0])

    def test_small_grammars(self):
        chooser = random.Random(43)
        for grammar in [EDGES] + told_grammars() + all_grammars(every=30)[24:]:
            parsers = some_parsers(grammar, chooser, 2)
            rows = [Outcomes(parser, 6, 400) for parser in chooser.sample(parsers, min(4, len(parsers)))]
            for one, other in itertools.combinations(rows, 2):
                self.check_comparison(one, other)
        self.assertGreater(min(self.seen.values()), 60, self.seen)

    def test_more_productions(self):
        chooser = random.Random(47)
        for grammar in told_grammars() + all_grammars(every=40)[24:]:
            wider = grammar
            for production in (("more", grammar.start, ("new",)), ("mark", grammar.start, ("new", grammar.start)),
                               ("again", chooser.choice(grammar.nonterminals), (grammar.terminals or ("a",))[:1] + ("new",))):
                wider = wider + production if production[0] not in wider.names else wider
            self.assertTrue(grammar.is_part_of(wider))
            wide = chooser.choice(some_parsers(wider, chooser, 1))
            for parser in chooser.sample(some_parsers(grammar, chooser, 1), 3) + [Parser.by(grammar, Levels())]:
                one = Outcomes(parser, 6, 300)
                for other in (wide, Parser.by(wider, Levels(), kind=parser.table.kind)):
                    self.check_inclusion(one, Outcomes(other, 6, 1500))
                with self.assertRaises(InvalidOperation):
                    are_alike(parser, wide)
        self.assertGreater(min(self.seen.values()), 50, self.seen)

    def test_productions_in_another_order(self):
        chooser = random.Random(53)
        for grammar in told_grammars():
            other = turned(grammar)
            for kind in KINDS:
                one = Parser(Table(grammar, kind), all_of(Table(grammar, kind)))
                same = Parser(Table(other, kind), one.resolution)
                self.assertIs(are_alike(one, same), True)
                self.assertEqual(comparison_paper(one, same)[0], "alike")
            self.check_comparison(Outcomes(one, 5, 200), Outcomes(chooser.choice(some_parsers(other, chooser, 1)), 5, 200))


class TestEdges(unittest.TestCase):
    def test_parsers_without_trees(self):
        full, empty = Parser(Table(ELSE), all_of(Table(ELSE))), Parser(Table(ELSE, "lr1"), {})
        self.assertEqual([least_outside(empty, full), least_outside(full, empty), least_parting(empty, full)], [None, ("x",), ("x",)])
        self.assertEqual(inclusion_paper(empty, full), ("inside", ({(0, 0, "S", "$"): ()}, ())))
        self.assertEqual([are_alike(empty, empty), comparison_paper(full, empty)], [True, ("parted", ("x",))])
        # Without "accept" nothing is built, whatever else is there.
        shut = Parser(Table(ELSE), {cell: action for cell, action in full.resolution.items() if action != "accept"})
        self.assertEqual([least_outside(shut, full), least_outside(full, shut), least_parting(shut, empty)], [None, ("x",), None])
        self.assertEqual([are_alike(shut, empty), are_alike(shut, full), least_parting(shut, full)], [True, False, ("x",)])
        paper = inclusion_paper(shut, empty)
        self.assertEqual((paper[0], paper[1][1]), ("inside", ()))
        self.assertIs(is_inclusion_paper(shut, empty, paper), True)
        self.assertIs(is_inclusion_paper(full, shut, ("inside", pair_survey(full, shut))), False)

    def test_the_empty_text(self):
        grammar = Grammar.from_lines("one: S -> a S b", "two: S ->")
        full, empty = Parser(Table(grammar), all_of(Table(grammar))), Parser(Table(grammar, "slr"), {})
        self.assertEqual([least_outside(full, empty), least_parting(empty, full)], [(), ()])
        self.assertIs(is_inclusion_paper(full, empty, ("outside", ())), True)
        self.assertIs(is_comparison_paper(empty, full, ("parted", ())), True)

    def test_just_sixty_terminals_and_more(self):
        for last, wanted in (("C C C", ("x",) * 60), ("C C C z", None)):
            grammar = Grammar.from_lines(*long_lines(last))
            full, empty = Parser(Table(grammar), all_of(Table(grammar))), Parser(Table(grammar, "lr1"), {})
            self.assertEqual([least_outside(empty, full), are_alike(full, empty)], [None, False])
            if wanted is not None:
                self.assertEqual([least_outside(full, empty), least_parting(empty, full)], [wanted, wanted])
                self.assertEqual(inclusion_paper(full, empty), ("outside", wanted))
                continue
            for call in (inclusion_paper, least_outside, comparison_paper, least_parting):
                with self.assertRaises(TooMany) as caught:
                    call(full, empty)
                self.assertEqual(caught.exception.limit, 60)
            for call in (comparison_paper, least_parting):
                with self.assertRaises(TooMany):
                    call(empty, full)
            for text in (("x",) * 61, ("x",) * 60 + ("z",)):
                self.assertIs(is_inclusion_paper(full, empty, ("outside", text)), False)

    def test_one_way_is_long_and_the_other_one_short(self):
        grammar = Grammar.from_lines(*long_lines("C C C z"), "short: S -> y")
        table = Table(grammar)
        one = Parser(table, {cell: action for cell, action in all_of(table).items() if action != "short"})
        other = Parser(table, {cell: action for cell, action in all_of(table).items() if action != "s"})
        with self.assertRaises(TooMany):
            least_outside(one, other)
        self.assertEqual([least_outside(other, one), least_parting(one, other), least_parting(other, one)], [("y",)] * 3)
        self.assertEqual(comparison_paper(one, other), ("parted", ("y",)))

    def test_what_new_productions_change(self):
        shifts = Grammar.from_lines("one: S -> A b", "letter: A -> a")
        more = shifts + ("two", "S", ("a", "b", "x"))
        paper = inclusion_paper(Parser.by(shifts, Levels()), Parser.by(more, Levels()))
        self.assertEqual(paper, ("outside", ("a", "b")))
        table = Table(more)
        kept = Parser(table, {**all_of(table), (table.walk(("a",)), "b"): "letter"})
        self.assertEqual(inclusion_paper(Parser.by(shifts, Levels()), kept)[0], "inside")
        self.assertIs(is_inclusion_paper(Parser.by(shifts, Levels()), kept, paper), False)

    def test_greater_surveys_are_papers_if_what_is_used_is_demanded(self):
        one, other = Parser.by(ELSE, Levels()), Parser.by(ELSE, Levels(), kind="lr1")
        rule = plain_surveys.ByPair(one, other)
        survey = pair_survey(one, other)
        more = plain_surveys.closure(rule, {(5, 3, "S", "if"): ("x",)}, ((5, 3, "S", "if"),))
        self.assertGreater(len(more[1]), len(survey[1]))
        for value in (survey, more):
            self.assertIs(is_inclusion_paper(one, other, ("inside", value)), True)
            self.assertIs(is_comparison_paper(one, other, ("alike", value, pair_survey(other, one))), True)
        self.assertIs(is_comparison_paper(one, other, ("alike", pair_survey(other, one), survey)), False)
        self.assertIs(is_comparison_paper(one, other, ("alike", survey)), False)
        self.assertIs(is_comparison_paper(one, other, ("alike", survey, survey)), False)

    def test_whole_chains_that_are_not_used(self):
        grammar = Grammar.from_lines("one: S -> A B", "two: A -> a", "bee: B -> b", "cee: B -> c")
        table = Table(grammar)
        one = Parser(table, {cell: row[0] for cell, row in table.cells.items() if cell != (table.walk(("a",)), "c")})
        other = Parser(table, {cell: action for cell, action in all_of(table).items() if action != "cee"})
        survey = pair_survey(one, other)
        (spot,) = [spot for spot in survey[1] if spot[2] == "B"]
        self.assertEqual(survey[0][spot], ("b", "c"))
        self.assertEqual(inclusion_paper(one, other), ("inside", survey))
        more = plain_surveys.closure(plain_surveys.ByPair(one, other), {(0, 0, "A", "c"): ("a",)})
        self.assertIs(is_pair_survey(one, other, more), True)
        self.assertIs(is_inclusion_paper(one, other, ("inside", more)), False)

    def test_deep_trees(self):
        grammar = Grammar.from_lines("a: S -> A", "b: A -> B", "c: B -> C", "d: C -> D", "e: D -> E", "f: E -> y S", "g: E -> x")
        table = Table(grammar)
        full, other = Parser(table, all_of(table)), Parser(Table(grammar, "lr0"), all_of(Table(grammar, "lr0")))
        text = ("y",) * 59 + ("x",)
        self.assertIs(are_alike(full, other), True)
        for judge, word in ((is_inclusion_paper, "outside"), (is_comparison_paper, "parted")):
            self.assertIs(judge(full, other, (word, text)), False)
            self.assertIs(judge(full, Parser(table, {}), (word, text)), True)


class TestKinds(unittest.TestCase):
    def test_told_ones(self):
        self.assertEqual(kinds_alike(SUMS, USUAL_LEVELS), (("lalr", "lr0", "lr1", "slr"),))
        self.assertEqual(kinds_alike(PAIRS, Levels(order=("cb",))), (("lalr", "lr0", "slr"), ("lr1",)))
        self.assertEqual(kinds_alike(Grammar.from_lines("one: S -> a"), Levels()), (("lalr", "lr0", "lr1", "slr"),))

    def test_against_short_texts(self):
        chooser = random.Random(59)
        seen = set()
        for grammar in told_grammars() + all_grammars(every=25)[24:]:
            levels = Levels((("left", grammar.terminals[:1]), ("right", grammar.terminals[1:2])),
                            order=tuple(chooser.sample(grammar.names, len(grammar.names))))
            groups = kinds_alike(grammar, levels)
            seen.add(groups)
            self.assertEqual(sorted(kind for group in groups for kind in group), sorted(KINDS))
            self.assertEqual(groups, tuple(sorted(tuple(sorted(group)) for group in groups)))
            rows = {kind: Outcomes(Parser.by(grammar, levels, kind=kind), 6, 300).trees for kind in KINDS}
            for one, other in itertools.combinations(KINDS, 2):
                together = any(one in group and other in group for group in groups)
                parsers = [Parser.by(grammar, levels, kind=kind) for kind in (one, other)]
                self.assertIs(are_alike(*parsers), together)
                if together:
                    self.assertEqual(rows[one], rows[other])
        self.assertGreater(len(seen), 3, seen)

    def test_errors(self):
        for wrong in [value for value in ODD if not isinstance(value, Grammar)]:
            with self.assertRaises(InvalidGrammar):
                kinds_alike(wrong, None)
        for wrong in ODD + [SUMS, Filter()]:
            with self.assertRaises(InvalidLevels):
                kinds_alike(SUMS, wrong)


class TestJudges(unittest.TestCase):
    def test_values_near_to_papers(self):
        one, other = Parser.by(ELSE, Levels()), Parser(Table(ELSE), {**all_of(Table(ELSE)), (4, "else"): "cond"})
        text = ("if", "x", "else", "x")
        survey = pair_survey(one, one)
        near = ODD + [("outside",), ["outside", text], ("outside", list(text)), ("Outside", text), ("outside", text, None), (True, text),
                      ("outside", ("x",)), ("outside", ("if",)), ("outside", ()), ("outside", None), ("outside", ("y",)), ("inside", text),
                      ("inside", survey), ("inside", None), ("parted", text), (("outside",), text), ("outside", NEAR), ("inside", ({}, ()))]
        for value in near:
            self.assertIs(is_inclusion_paper(one, other, value), False, value)
        self.assertIs(is_inclusion_paper(one, other, ("outside", text)), True)
        near = ODD + [("parted",), ["parted", text], ("parted", list(text)), ("Parted", text), ("parted", text, None), ("parted", text, text),
                      ("parted", ("x",)), ("parted", ("if",)), ("parted", None), ("alike", survey, survey), ("alike", survey), ("alike", text),
                      ("alike", None, None), ("alike", survey, None), ("outside", text), (None, survey, survey)]
        for value in near:
            self.assertIs(is_comparison_paper(one, other, value), False, value)
            self.assertIs(is_comparison_paper(one, one, value), value == ("alike", survey, survey))
        self.assertIs(is_inclusion_paper(one, one, ("inside", survey)), True)
        false = ({((False,) + spot[1:] if spot[0] == 0 else spot): row for spot, row in survey[0].items()}, survey[1])
        self.assertEqual(false, survey)
        self.assertIs(is_inclusion_paper(one, one, ("inside", false)), False)


class TestErrors(unittest.TestCase):
    def test_no_parsers(self):
        parser = Parser.by(ELSE, Levels())
        calls = (inclusion_paper, least_outside, comparison_paper, least_parting, are_alike,
                 lambda one, two: is_inclusion_paper(one, two, None), lambda one, two: is_comparison_paper(one, two, None))
        for wrong in ODD + [Table(ELSE), Levels(), FAR]:
            for call in calls:
                for one, other in ((wrong, parser), (parser, wrong), (wrong, wrong)):
                    with self.assertRaises(InvalidOperation):
                        call(one, other)
        start = Parser.by(Grammar.from_lines("skip: T -> S", *ELSE.lines), Levels())
        less = Parser.by(ELSE - "cond", Levels())
        for other in (Parser.by(SUMS, Levels()), less, start, Parser.by(renamed(ELSE, names={"act": "step"}), Levels())):
            for call in calls:
                with self.assertRaises(InvalidOperation):
                    call(parser, other)
        self.assertEqual(inclusion_paper(less, parser)[0], "inside")
        for call in calls[2:5] + calls[6:]:
            with self.assertRaises(InvalidOperation):
                call(less, parser)


if __name__ == "__main__":
    unittest.main()
