"""What holds over the whole program: other names and orders, productions added in any order, texts that carry all."""

import itertools
import random
import unittest

from chosentrees.base.grammars import Grammar, renamed
from chosentrees.base.symbols import read_terminals, write_terminals
from chosentrees.base.trees import all_trees
from chosentrees.compare.compared import are_alike, kinds_alike, least_outside
from chosentrees.compare.met import cells_met, endless_text, lost_texts, refusing, text_to
from chosentrees.compare.written import label_count, readings, written_out
from chosentrees.errors import InvalidGrammar, Refused, TooMany
from chosentrees.project.project import Project
from chosentrees.run.parsers import Parser
from chosentrees.table.levels import is_contained, joined, settled
from chosentrees.table.tables import KINDS, Table
from chosentrees.text.shell import Shell
from chosentrees.text.texts import (read_filter, read_grammar, read_levels, read_resolution, read_tree, write_filter,
                                    write_grammar, write_levels, write_resolution, write_tree)
from chosentrees.wish.exact import is_exact, least_beyond, missed_paper, within_paper
from chosentrees.wish.filters import Filter, Wishes
from chosentrees.wish.labels import demands, is_built, labels, least_of
from chosentrees.wish.papers import clashes, is_wishes_paper, least_resolution, wishes_paper
from chosentrees.wish.ranking import can_fit, free_needed, is_levels_paper, levels_paper
from chosentrees.wish.surveys import filter_survey, pair_survey, parser_survey

from samples import DANGLING, ELSE, NEAR, PAIRS, SUMS, USUAL
from small import some_texts, told_grammars
from small_filters import EDGES, some_filters
from test_compared import turned
from test_surveys import some_parsers

MORE_LETTERS = "abcdefghijklmnop"


class Renaming:
    """Other symbols and names that keep the order of all words, and values in these."""

    def __init__(self, grammar):
        self.terminals = {each: f"t{MORE_LETTERS[at]}" for at, each in enumerate(grammar.terminals)}
        self.nonterminals = {each: f"N{MORE_LETTERS[at]}" for at, each in enumerate(grammar.nonterminals)}
        self.names = {each: f"p{MORE_LETTERS[at]}" for at, each in enumerate(sorted(grammar.names))}
        self.grammar = renamed(grammar, symbols={**self.terminals, **self.nonterminals}, names=self.names)
        self.words = {**self.terminals, **self.nonterminals, "$": "$", "": ""}

    def action(self, action):
        """An action."""
        return self.names.get(action, action)

    def resolution(self, resolution):
        """A resolution."""
        return {(state, self.words[ahead]): self.action(action) for (state, ahead), action in resolution.items()}

    def text(self, text):
        """A text, or None."""
        return None if text is None else tuple(self.words[each] for each in text)

    def tree(self, tree):
        """A tree, or None."""
        if tree is None or isinstance(tree, str):
            return self.words.get(tree)
        return self.names[tree[0]], tuple(self.tree(part) for part in tree[1])

    def filter(self, bars):
        """A filter."""
        return Filter(tuple((how, self.names[outer], at, self.names[inner]) for how, outer, at, inner in bars))

    def spot(self, spot):
        """A spot of a survey."""
        return tuple(tuple(self.names[name] for name in each) if isinstance(each, tuple) else
                     each if isinstance(each, int) else self.words[each] for each in spot)

    def survey(self, survey):
        """A survey."""
        return ({self.spot(spot): tuple(sorted(self.words[first] for first in row)) for spot, row in survey[0].items()},
                tuple(sorted(self.spot(spot) for spot in survey[1])))

    def label(self, label):
        """A label."""
        return label[:1] + tuple(self.words[word] for word in label[1:])

    def row(self, row):
        """A row, or its parts."""
        return self.label(row[0]), self.names[row[1]], tuple(
            self.words[part] if isinstance(part, str) else self.label(part) for part in row[2])


class TestOtherNames(unittest.TestCase):
    """With words in the same order all results are the same but for the words."""

    def setUp(self):
        self.chooser = random.Random(109)

    def test_grammars_trees_and_tables(self):
        for grammar in told_grammars() + [EDGES]:
            made = Renaming(grammar)
            for kind in KINDS:
                one, other = Table(grammar, kind), Table(made.grammar, kind)
                cells = {(state, made.words[ahead]): tuple(sorted(map(made.action, row))) for (state, ahead), row in one.cells.items()}
                self.assertEqual((cells, len(one)), (other.cells, len(other)))
                for text in some_texts(grammar, 4, 60):
                    trees = list(all_trees(grammar, text))[:4]
                    self.assertEqual([made.tree(tree) for tree in trees], list(all_trees(made.grammar, made.text(text)))[:4])
                    for tree in trees:
                        told = [((cell[0], made.words[cell[1]]), made.action(action)) for cell, action in demands(one, tree)]
                        self.assertEqual(tuple(sorted(told)), demands(other, made.tree(tree)))
                        self.assertEqual(tuple(map(made.label, labels(one, tree))), labels(other, made.tree(tree)))

    def test_parsers_and_papers(self):
        for grammar in told_grammars() + [EDGES]:
            made = Renaming(grammar)
            for parser in self.chooser.sample(some_parsers(grammar, self.chooser, 1), 3):
                other = Parser(Table(made.grammar, parser.table.kind), made.resolution(parser.resolution))
                for bars in some_filters(grammar, self.chooser, 1):
                    self.compare(parser, other, bars, made)
                cells = cells_met(parser)
                self.assertEqual(tuple(sorted((state, made.words[ahead]) for state, ahead in cells)), cells_met(other))
                self.assertEqual([made.text(text_to(parser, cell)) for cell in cells],
                                 [text_to(other, (state, made.words[ahead])) for state, ahead in cells])
                self.assertEqual(len(refusing(parser)), len(refusing(other)))
                self.assertEqual(made.text(endless_text(parser)), endless_text(other))
                self.assertEqual([made.text(text) for text in lost_texts(parser, most=4)], list(lost_texts(other, most=4)))
                starts, rows = written_out(parser)
                self.assertEqual((tuple(map(made.label, starts)), tuple(sorted(map(made.row, rows)))), written_out(other))
                self.assertEqual(label_count(parser), label_count(other))

    def compare(self, parser, other, bars, made):
        fit = made.filter(bars)
        self.assertEqual(made.survey(filter_survey(parser.table, bars)), filter_survey(other.table, fit))
        self.assertEqual(made.survey(parser_survey(parser, bars)), parser_survey(other, fit))
        self.assertEqual(made.survey(pair_survey(parser, parser)), pair_survey(other, other))
        self.assertEqual(made.text(least_beyond(parser, bars)), least_beyond(other, fit))
        self.assertEqual([within_paper(parser, bars)[0], missed_paper(parser, bars)[0], is_exact(parser, bars)],
                         [within_paper(other, fit)[0], missed_paper(other, fit)[0], is_exact(other, fit)])
        cells = clashes(parser.table, Wishes(bars))
        self.assertEqual(tuple(sorted((state, made.words[ahead]) for state, ahead in cells)), clashes(other.table, Wishes(fit)))
        resolution = least_resolution(parser.table, Wishes(bars))
        self.assertEqual(None if resolution is None else made.resolution(resolution), least_resolution(other.table, Wishes(fit)))
        self.assertEqual([levels_paper(parser.table, parser.resolution)[0], len(free_needed(parser.table, parser.resolution, most=1))],
                         [levels_paper(other.table, other.resolution)[0], len(free_needed(other.table, other.resolution, most=1))])

    def test_any_other_names(self):
        # With words in another order the states have other numbers, but the same trees are built.
        for grammar, bars in ((SUMS, USUAL), (ELSE, DANGLING), (PAIRS, Filter())):
            terminals = list(grammar.terminals)
            self.chooser.shuffle(terminals)
            symbols = {one: other for one, other in zip(grammar.terminals, terminals)}
            turn = renamed(grammar, symbols=symbols)
            for kind in KINDS:
                one, other = Table(grammar, kind), Table(turn, kind)
                self.assertEqual([len(one), len(one.conflicts), len(clashes(one, Wishes(bars)))], [len(other), len(other.conflicts), len(clashes(other, Wishes(bars)))])
                if least_resolution(one, Wishes(bars)) is None:
                    continue
                parsers = [Parser(table, least_resolution(table, Wishes(bars))) for table in (one, other)]
                self.assertEqual([is_exact(parser, bars) for parser in parsers], [True, True])
                self.assertEqual(label_count(parsers[0]), label_count(parsers[1]))
                for text in some_texts(grammar, 5, 400):
                    tree = parsers[0].tree(text)
                    made = parsers[1].tree(tuple(symbols[each] for each in text))
                    self.assertEqual(tree is None, made is None)
                    self.assertTrue(tree is None or write_tree(grammar, tree).split(" ")[0] == made[0])


class TestOtherOrders(unittest.TestCase):
    def test_tables_and_papers(self):
        chooser = random.Random(113)
        for grammar in told_grammars() + [EDGES]:
            other = turned(grammar)
            for kind in KINDS:
                one, two = Table(grammar, kind), Table(other, kind)
                self.assertEqual((one.cells, settled(one)), (two.cells, settled(two)))
                for bars in some_filters(grammar, chooser, 1):
                    self.assertEqual(filter_survey(one, bars), filter_survey(two, bars))
                    self.assertEqual(clashes(one, Wishes(bars)), clashes(two, Wishes(bars)))
                    self.assertEqual(least_resolution(one, Wishes(bars)), least_resolution(two, Wishes(bars)))
                    self.assertIs(is_wishes_paper(two, Wishes(bars), wishes_paper(one, Wishes(bars))), True)
                resolution = {cell: chooser.choice(row) for cell, row in one.cells.items()}
                parsers = [Parser(table, resolution) for table in (one, two)]
                self.assertIs(are_alike(*parsers), True)
                self.assertEqual(can_fit(one, resolution), can_fit(two, resolution))
                self.assertIs(is_levels_paper(two, resolution, levels_paper(one, resolution)), levels_paper(one, resolution)[0] != "levels"
                              or is_contained(resolution, levels_paper(one, resolution)[1](two)))
                self.assertEqual([cells_met(parsers[0]), written_out(parsers[0])], [cells_met(parsers[1]), written_out(parsers[1])])

    def test_productions_added_in_any_order(self):
        rows = [("loop", "S", ("while", "S")), ("skip", "S", (";",)), ("pair", "S", ("(", "S", ")"))]
        made = []
        for order in itertools.permutations(rows):
            project = Project(ELSE)
            project.allow(DANGLING)
            project.keep(("if", "x", "else", "x"))
            for row in order:
                project += row
                self.assertIsNone(project.change())
            made.append(project)
        for project in made:
            self.assertIs(are_alike(project.parser, made[0].parser), True)
            self.assertEqual((project.resolution, project.kept), (made[0].resolution, made[0].kept))
            self.assertEqual(project == made[0], project.grammar == made[0].grammar)

    def test_wishes_in_any_order(self):
        trees = [tree for text in some_texts(SUMS, 4, 400) for tree in all_trees(SUMS, text)][:5]
        table = Table(SUMS)
        wanted = least_of(table, tuple(trees))
        for order in itertools.permutations(trees):
            project = Project(SUMS)
            for tree in order:
                project.want(tree)
            self.assertEqual(project.resolution, wanted)
        self.assertEqual(joined(*[least_of(table, (tree,)) for tree in trees]), wanted)


class TestStatementsTogether(unittest.TestCase):
    def test_what_papers_and_parsers_say_goes_together(self):
        chooser = random.Random(127)
        for grammar in told_grammars() + [EDGES]:
            for bars in some_filters(grammar, chooser, 2):
                table = Table(grammar, chooser.choice(KINDS))
                wishes = Wishes(bars)
                resolution = least_resolution(table, wishes)
                project = Project(grammar, kind=table.kind)
                if resolution is None:
                    with self.assertRaises(Refused) as caught:
                        project.allow(bars)
                    self.assertIs(is_wishes_paper(table, wishes, caught.exception.reason), True)
                    continue
                project.allow(bars)
                self.assertEqual(project.resolution, resolution)
                self.assertEqual(missed_paper(project.parser, bars)[0], "kept")
                text = least_beyond(project.parser, bars)
                self.assertIs(is_exact(project.parser, bars), text is None)
                if text is not None:
                    self.assertIs(bars.allows(grammar, project.parser.tree(text)), False)
                value = written_out(project.parser)
                for text in some_texts(grammar, 5, 60):
                    tree = project.parser.tree(text)
                    self.assertEqual(list(readings(grammar, value, text)), [] if tree is None else [tree])
                    self.assertIs(tree is not None and is_built(project.parser, tree), text in project.parser)

    def test_new_productions_and_old_trees(self):
        # What a project says of a change is what two parsers compared say.
        project = Project(Grammar.from_lines("one: S -> S S", "two: S -> a a S", "three: S -> a"))
        for line in ("one three a three a", "one one three a three a three a"):
            project.want(read_tree(project.grammar, line))
        old = project.parser
        project.add(("four", "S", ("S", "a")))
        self.assertEqual([project.change(), least_outside(old, project.parser), old.tree(("a",))], [("a",), ("a",), ("three", ("a",))])
        chooser = random.Random(131)
        for grammar in told_grammars():
            for _ in range(3):
                project = Project(grammar, kind=chooser.choice(KINDS))
                for text in some_texts(grammar, 3, 30):
                    for tree in list(all_trees(grammar, text))[:1]:
                        if len(project.wishes) < 4 and tree not in project:
                            try:
                                project.want(tree)
                            except Refused:
                                pass
                body = tuple(chooser.choice(grammar.terminals + grammar.nonterminals + ("new",)) for _ in range(chooser.randrange(1, 4)))
                old = project.parser
                try:
                    project.add(("odd", grammar.start, body))
                except (InvalidGrammar, Refused, TooMany):
                    continue
                self.assertEqual(project.change(), least_outside(old, project.parser))


class TestTextsThatCarryAll(unittest.TestCase):
    def make(self):
        project = Project(ELSE, kind="lr1")
        project.want(NEAR)
        project.allow(DANGLING)
        project.add(("loop", "S", ("while", "S")))
        project.keep(("while", "if", "x", "else", "x"))
        project.keep(("x",))
        return project

    def test_a_project_from_texts(self):
        project = self.make()
        texts = [write_grammar(project.grammar), project.kind, write_filter(project.wishes.bars), [write_tree(project.grammar, tree) for tree in project.wishes.trees],
                 [write_terminals(text) for text in project], write_resolution(project.resolution), write_levels(project.levels())]
        made = Project(read_grammar(texts[0]), kind=texts[1])
        made.allow(read_filter(texts[2]))
        for line in texts[3]:
            made.want(read_tree(made.grammar, line))
        for line in texts[4]:
            made.keep(read_terminals(line))
        self.assertEqual(made, project)
        self.assertEqual(Parser(made.table, read_resolution(texts[5])), project.parser)
        self.assertTrue(is_contained(made.resolution, read_levels(texts[6])(made.table)))

    def test_a_project_from_lines(self):
        project = self.make()
        lines = (f"use {project.kind}", *[f"want {write_tree(ELSE, tree)}" for tree in project.wishes.trees],
                 "allow " + write_filter(project.wishes.bars).replace("\n", " ; "), f"add {project.grammar.lines[-1]}",
                 *[f"keep {write_terminals(text)}" for text in project])
        shell = Shell(Project(ELSE))
        self.assertEqual(list(shell.results(lines)), ["done"] * len(lines))
        self.assertEqual((shell.project, shell.log), (project, lines))

    def test_kinds_by_levels_that_were_read(self):
        for grammar, bars in ((SUMS, USUAL), (ELSE, DANGLING)):
            project = Project(grammar)
            project.allow(bars)
            levels = read_levels(write_levels(project.levels()))
            self.assertEqual(kinds_alike(grammar, levels), (("lalr", "lr0", "lr1", "slr"),))
            self.assertIs(are_alike(project.parser, Parser.by(grammar, levels)), True)


if __name__ == "__main__":
    unittest.main()
