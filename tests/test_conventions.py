"""What holds for all functions alike [0.1] to [0.6]."""

import unittest

from chosentrees import errors
from chosentrees.base import grammars, symbols
from chosentrees.base.grammars import Grammar, renamed
from chosentrees.base.trees import all_trees, count_trees, is_tree, part_at, text_of
from chosentrees.compare.compared import comparison_paper
from chosentrees.compare.met import cells_met, lost_texts
from chosentrees.compare.written import written_out
from chosentrees.errors import (InvalidGrammar, InvalidLevels, InvalidNumber, InvalidOperation, InvalidResolution,
                                InvalidText, InvalidTree, ParseError, TooMany, UnknownName)
from chosentrees.project.project import Project
from chosentrees.run.parsers import Parser
from chosentrees.table.levels import Levels, common, is_contained, is_resolution, joined, settled
from chosentrees.table.tables import Table
from chosentrees.text.shell import Shell
from chosentrees.text.texts import read_resolution
from chosentrees.wish.exact import missed_paper, within_paper
from chosentrees.wish.filters import Filter, Wishes
from chosentrees.wish.papers import least_resolution
from chosentrees.wish.ranking import can_fit, free_needed, is_levels_paper, levels_paper

from samples import DANGLING, ELSE, NEAR, NEST, ODD, PAIRS, SUMS, USUAL


class TestJudges(unittest.TestCase):
    def test_they_return_booleans_for_all_values(self):
        judges = [symbols.is_terminal, symbols.is_nonterminal, symbols.is_name, symbols.is_terminals, SUMS.is_part_of]
        for judge in judges:
            for value in ODD + ["", "a", "E", "+", "$", (), ("a",), SUMS, ELSE, SUMS.productions]:
                self.assertIn(type(judge(value)), (bool,))

    def test_true_is_not_one(self):
        self.assertIs(symbols.is_terminal(True), False)
        self.assertIs(symbols.is_terminals((True,)), False)
        self.assertIs(symbols.is_name(False), False)
        self.assertIs(symbols.is_nonterminal(True), False)


class TestStates(unittest.TestCase):
    def test_equal_calls_return_equal_results(self):
        for grammar in (SUMS, ELSE, NEST, PAIRS):
            for each in grammar.nonterminals:
                for method in (grammar.of, grammar.firsts, grammar.follows, grammar.least):
                    self.assertEqual(method(each), method(each))
            self.assertEqual((grammar.productions, grammar.names, grammar.lines, grammar.terminals, list(grammar)),
                             (grammar.productions, grammar.names, grammar.lines, grammar.terminals, list(grammar)))

    def test_signs_leave_grammars_as_they_are(self):
        before = SUMS.lines
        same = Grammar(SUMS.productions)
        results = [SUMS + ("par", "E", ("(", "E", ")")), SUMS - "neg", SUMS | (SUMS - "neg"), renamed(SUMS)]
        self.assertEqual((SUMS.lines, SUMS.terminals, SUMS.nonterminals), (before, ("*", "+", "-", "n"), ("E",)))
        self.assertEqual((SUMS.follows("E"), SUMS.firsts("E"), SUMS.least("E")), (("$", "*", "+"), ("-", "n"), ("n",)))
        self.assertEqual(SUMS, same)
        self.assertEqual([each.terminals for each in results], [("(", ")", "*", "+", "-", "n"), ("*", "+", "n"),
                                                                ("*", "+", "-", "n"), ("*", "+", "-", "n")])

    def test_signs_with_assignment_make_new_grammars(self):
        made = kept = ELSE
        made += ("loop", "S", ("while", "S"))
        self.assertEqual((len(made), len(kept)), (4, 3))
        made -= "loop"
        self.assertEqual((made, len(kept)), (ELSE, 3))
        made |= Grammar.from_lines("more: S -> y")
        self.assertEqual((len(made), len(kept)), (4, 3))

    def test_errors_have_no_effect(self):
        for wrong in ODD:
            for call in (SUMS.of, SUMS.__getitem__, SUMS.__add__, SUMS.__sub__, SUMS.least, SUMS.firsts, SUMS.follows):
                with self.assertRaises((UnknownName, InvalidOperation)):
                    call(wrong)
        self.assertEqual(SUMS, Grammar.from_lines("num: E -> n", "plus: E -> E + E", "times: E -> E * E",
                                                  "neg: E -> - E"))

    def test_errors_are_not_iterable(self):
        for made in (ParseError(3), TooMany(60), UnknownName("E"), InvalidGrammar("no"), errors.Refused(("lost", ()))):
            with self.assertRaises(TypeError):
                iter(made)


class TestWhichErrorComesFirst(unittest.TestCase):
    def test_unknown_names_before_too_many(self):
        grammar = Grammar.from_lines("a: S -> A A A A A", "b: A -> B B B", "c: B -> x x x x x")
        for wrong in ("C", "x", None, ("S",)):
            with self.assertRaises(UnknownName):
                grammar.least(wrong)
        with self.assertRaises(TooMany):
            grammar.least("S")

    def test_productions_before_grammars(self):
        full = Grammar(tuple((name, "S", tuple(name)) for name in "a b ab ba aa bb aaa bbb aab abb aba bab bba baa aaaa "
                             "bbbb".split(" ")))
        self.assertEqual(len(full), 16)
        with self.assertRaises(InvalidOperation):
            full + ("abab", "S", ["a"])
        with self.assertRaises(InvalidGrammar):
            full + ("abab", "S", ("b", "a", "b", "a"))

    def test_names_before_grammars(self):
        one = Grammar.from_lines("one: S -> x")
        with self.assertRaises(UnknownName):
            one - "two"
        with self.assertRaises(InvalidGrammar):
            one - "one"

    def test_both_texts_wrong(self):
        for one, other in ((("a",) * 61, ["a"]), (True, None), ("a", ("$",))):
            with self.assertRaises(InvalidText):
                symbols.is_before(one, other)

    def test_lines_before_grammars(self):
        with self.assertRaises(ParseError) as caught:
            Grammar.from_lines("a: S -> S", "a: S -> S", "a: S -> S ", True)
        self.assertEqual(caught.exception.line, 2)

    def test_renamed(self):
        for wrong in ({"symbols": 1}, {"names": 1}, {"symbols": {"q": "r"}, "names": True}):
            with self.assertRaises(InvalidGrammar):
                renamed("SUMS", **wrong)
            with self.assertRaises(InvalidOperation):
                renamed(SUMS, **wrong)


class TestWrongObjectsOfThePackage(unittest.TestCase):
    """Objects of the package stand where others are asked for."""

    def setUp(self):
        table = Table(ELSE)
        self.objects = [table, Levels(), Parser(table, {}), ParseError(3), Levels((("left", ("x",)),)), table.cells]

    def test_judges(self):
        for value in self.objects + [ELSE]:
            for told in (is_tree(ELSE, value), is_resolution(Table(ELSE), value), value in Table(ELSE),
                         value in Levels(), value in Parser(Table(ELSE), {}), symbols.is_terminals(value)):
                self.assertIs(told, False)

    def test_functions(self):
        grammar, table = ELSE, Table(ELSE)
        parser = Parser(table, {})
        calls = [
            (lambda value: count_trees(value, ()), InvalidGrammar), (lambda value: count_trees(grammar, value), InvalidText),
            (lambda value: text_of(grammar, value), InvalidTree), (lambda value: part_at(grammar, NEAR, value), InvalidOperation),
            (Table, InvalidGrammar), (lambda value: Table(grammar, value), InvalidOperation),
            (lambda value: table[value], InvalidOperation), (table.items, InvalidOperation),
            (lambda value: table.after(0, value), UnknownName), (table.walk, InvalidOperation),
            (lambda value: table.lookaheads(0, value), UnknownName), (Levels, InvalidLevels),
            (lambda value: Levels(own=value), InvalidLevels), (lambda value: Levels(order=value), InvalidLevels),
            (lambda value: Levels()[value], InvalidNumber), (lambda value: Levels() + value, InvalidOperation),
            (lambda value: Parser(table, value), InvalidResolution), (parser, InvalidText), (parser.tree, InvalidText),
            (joined, InvalidResolution), (common, InvalidResolution), (lambda value: is_contained({}, value), InvalidResolution),
        ]
        for value in self.objects:
            for call, error in calls:
                with self.assertRaises(error):
                    call(value)
        for value in [each for each in self.objects if not isinstance(each, Table)]:
            for call in (settled, Levels(), lambda value: Parser(value, {})):
                with self.assertRaises(InvalidOperation):
                    call(value)
        for value in [each for each in self.objects if not isinstance(each, Levels)]:
            with self.assertRaises(InvalidLevels):
                Parser.by(grammar, value)


class TestSeveralWrongArguments(unittest.TestCase):
    def test_the_first_one_decides(self):
        wrong = [None, True, [], (1,), "x"]
        for one in wrong:
            for two in wrong:
                for three in wrong:
                    for call, error in (
                            (lambda: is_tree(one, two), InvalidGrammar), (lambda: part_at(one, two, three), InvalidGrammar),
                            (lambda: part_at(ELSE, two, three), InvalidTree), (lambda: count_trees(one, two), InvalidGrammar),
                            (lambda: next(all_trees(one, two)), InvalidGrammar), (lambda: Table(one, two), InvalidGrammar),
                            (lambda: Table(ELSE).after(one, two), InvalidOperation),
                            (lambda: Table(ELSE).lookaheads(one, two), InvalidOperation),
                            (lambda: is_resolution(one, two), InvalidOperation),
                            (lambda: Parser(one, two), InvalidOperation),
                            (lambda: Parser.by(one, two, kind=three), InvalidGrammar),
                            (lambda: Parser.by(ELSE, two, kind=three), InvalidLevels),
                            (lambda: Levels().prefers(one, two, three), InvalidGrammar)):
                        with self.assertRaises(error):
                            call()
                    with self.assertRaises(UnknownName) as caught:
                        Levels().prefers(NEST, two, three)
                    self.assertIs(caught.exception.wanted, two)


class TestArguments(unittest.TestCase):
    """Which arguments are given by their places, and which ones by their names [0.3]."""

    def setUp(self):
        self.table = Table(ELSE)
        self.parser = Parser.by(ELSE, Levels())

    def test_keywords_are_keywords(self):
        table, parser, project = self.table, self.parser, Project(ELSE)
        for call in (lambda: levels_paper(table, {}, ()), lambda: is_levels_paper(table, {}, None, ()), lambda: can_fit(table, {}, ()),
                     lambda: free_needed(table, {}, 2), lambda: lost_texts(parser, 3), lambda: Project(ELSE, "lalr"), lambda: project.levels(()),
                     lambda: project.undo(1), lambda: project.redo(1), lambda: Parser.by(ELSE, Levels(), "lalr"), lambda: Levels((), {})):
            with self.assertRaises(TypeError):
                call()
        with self.assertRaises(TypeError):
            lost_texts(parser)

    def test_defaults_and_names(self):
        self.assertEqual((Table(ELSE, kind="slr"), Table(grammar=ELSE, kind="slr").kind), (Table(ELSE, "slr"), "slr"))
        self.assertEqual((Filter(bars=()), Wishes(bars=None, trees=()), Levels(groups=())), (Filter(), Wishes(), Levels()))
        self.assertEqual((levels_paper(self.table, {}, free=())[0], can_fit(self.table, {}), free_needed(self.table, {}, most=0)), ("levels", True, ((),)))
        self.assertEqual((Project(ELSE, kind="lalr"), Project(ELSE).undo(many=0), Project(ELSE).redo(many=0)), (Project(ELSE), 0, 0))
        self.assertEqual(Project(ELSE).levels(free=()), Levels())


class TestObjects(unittest.TestCase):
    def test_objects_that_are_not_iterated_over(self):
        project = Project(ELSE)
        for value in (Table(ELSE), Levels(), Parser.by(ELSE, Levels()), Wishes(), Shell(project), project.trial()):
            for call in (iter, list, tuple):
                with self.assertRaises(TypeError):
                    call(value)
        self.assertEqual((list(ELSE), list(Filter()), list(project)), (list(ELSE.productions), [], []))

    def test_comparisons_accept_every_value(self):
        parser = Parser.by(ELSE, Levels())
        for one in (ELSE, Table(ELSE), Levels(), parser, Filter(), Wishes(), Project(ELSE)):
            for other in ODD + [Table(SUMS), Levels((("left", ()),)), Parser(Table(SUMS), {}), Filter((("child", "a", 0, "b"),)), Wishes(trees=(NEAR,)),
                                Project(SUMS)]:
                if other is not ELSE:
                    self.assertEqual((one == other, one != other, other == one), (False, True, False))
            self.assertEqual((one == one, one != one), (True, False))

    def test_equal_calls_return_equal_results(self):
        parser, project = Parser.by(ELSE, Levels()), Project(ELSE)
        project.allow(DANGLING)
        for call in (lambda: within_paper(parser, DANGLING), lambda: missed_paper(parser, Filter()), lambda: levels_paper(parser.table, parser.resolution),
                     lambda: comparison_paper(parser, parser), lambda: cells_met(parser), lambda: written_out(parser), project.levels, project.change,
                     lambda: list(lost_texts(parser, most=5)), lambda: str(project), lambda: Shell(project)("clashes ")):
            self.assertEqual(call(), call())

    def test_returned_dicts_ascend(self):
        parser = Parser.by(SUMS, Levels())
        calm = Parser(Table(SUMS), least_resolution(Table(SUMS), Wishes(USUAL)))
        for kind, value in (("within", within_paper(parser, Filter())), ("alike", comparison_paper(parser, parser)), ("kept", missed_paper(calm, USUAL))):
            self.assertEqual(value[0], kind)
            for firsts, spots in value[1:]:
                self.assertEqual((list(firsts), list(spots)), (sorted(firsts), sorted(spots)))
        cells = read_resolution("3 $ accept\n8 + plus")
        self.assertEqual(list(cells), sorted(cells))
        own = levels_paper(Table(SUMS), {(8, "+"): "plus"}, free=("neg", "num", "plus"))[1].own
        self.assertEqual(list(own), sorted(own))


class TestKindsOfResults(unittest.TestCase):
    def test_rows_are_tuples_of_strings(self):
        for grammar in (SUMS, ELSE, NEST, PAIRS):
            rows = [grammar.names, grammar.terminals, grammar.nonterminals, grammar.lines]
            for each in grammar.nonterminals:
                rows += [grammar.of(each), grammar.firsts(each), grammar.follows(each), grammar.least(each)]
            for row in rows:
                self.assertIs(type(row), tuple)
                self.assertEqual({type(value) for value in row} - {str}, set())

    def test_ascending_rows(self):
        for grammar in (SUMS, ELSE, NEST, PAIRS):
            rows = [grammar.terminals, grammar.nonterminals]
            for each in grammar.nonterminals:
                rows += [grammar.firsts(each), grammar.follows(each)]
            for row in rows:
                self.assertEqual(row, tuple(sorted(set(row))))

    def test_constants_are_integers(self):
        for value in (symbols.MAX_LETTERS, symbols.MAX_TEXT, grammars.MAX_PRODUCTIONS, grammars.MAX_BODY,
                      grammars.MAX_NONTERMINALS, grammars.MAX_TERMINALS):
            self.assertIs(type(value), int)


if __name__ == "__main__":
    unittest.main()
