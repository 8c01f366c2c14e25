"""The examples that the document prints, stages 1 to 18."""

import unittest

from chosentrees.base.grammars import Grammar, renamed
from chosentrees.base.symbols import (END, is_before, is_name, is_nonterminal, is_terminal, read_terminals,
                                      write_terminals)
from chosentrees.base.trees import all_trees, count_trees, is_tree, part_at, paths, size_of, text_of
from chosentrees.compare.compared import are_alike, comparison_paper, inclusion_paper, kinds_alike, least_outside, least_parting
from chosentrees.compare.met import cells_met, endless_text, lost_texts, refusing, text_to
from chosentrees.compare.written import readings, written_out
from chosentrees.errors import InvalidGrammar, ParseError, Refused
from chosentrees.project.project import Project
from chosentrees.run.parsers import Parser
from chosentrees.table.levels import Levels, is_contained, settled
from chosentrees.table.tables import KINDS, Table
from chosentrees.text.shell import Shell
from chosentrees.text.texts import (read_filter, read_resolution, read_tree, write_filter, write_grammar, write_levels,
                                    write_resolution, write_tree)
from chosentrees.wish.exact import can_be_exact, is_exact, least_beyond, missed_paper, within_paper
from chosentrees.wish.filters import Filter, Wishes, edge
from chosentrees.wish.labels import clash, demanded, demands, is_built, label, least_of, missing
from chosentrees.wish.papers import clashes, least_resolution, tree_demanding, wishes_paper
from chosentrees.wish.ranking import can_fit, free_needed, is_levels_paper, levels_paper
from chosentrees.wish.surveys import chains, filter_demands, filter_survey

SUMS = Grammar.from_lines("num: E -> n", "plus: E -> E + E", "times: E -> E * E", "neg: E -> - E")
ELSE = Grammar.from_lines("cond: S -> if S", "both: S -> if S else S", "act: S -> x")
NEST = Grammar.from_lines("push: S -> A S b", "base: S -> c", "none: A ->")
PAIRS = Grammar.from_lines("one: S -> a A a", "two: S -> b A b", "three: S -> a B b", "four: S -> b B a", "ca: A -> c", "cb: B -> c")

NEAR = ("cond", ("if", ("both", ("if", ("act", ("x",)), "else", ("act", ("x",))))))
FAR = ("both", ("if", ("cond", ("if", ("act", ("x",)))), "else", ("act", ("x",))))
USUAL = Filter((("child", "neg", 1, "plus"), ("child", "neg", 1, "times"), ("child", "plus", 2, "plus"), ("child", "times", 0, "plus"), ("child", "times", 2, "plus"), ("child", "times", 2, "times")))
arith = Levels((("left", ("+",)), ("left", ("*",))), own={"neg": 1})
usual, none = Parser(Table(SUMS, "slr"), arith(Table(SUMS, "slr"))), Parser(Table(NEST, "lr0"), {(0, "c"): "none", (2, "c"): "none"})
DANGLING = Filter((("right", "both", 1, "cond"),))
calm = Parser(Table(SUMS), least_resolution(Table(SUMS), Wishes(USUAL)))
fitting = ("levels", Levels((("left", ("+",)), ("left", ("*",)), ("left", ("-",)))))
near = Parser.by(ELSE, Levels())


class TestExamples(unittest.TestCase):
    def test_symbols(self):
        self.assertEqual(
            [is_terminal("else"), is_terminal("+"), is_terminal("++"), is_nonterminal("Expr"), is_name("plus"), is_terminal(END), is_name("shift")],
            [True, True, False, True, True, False, False])

    def test_rows(self):
        self.assertEqual(
            [write_terminals(("n", "+", "n")), read_terminals("if x else x"), read_terminals(""), is_before(("x",), ("a", "a")), is_before(("b",), ("a",))],
            ['n + n', ('if', 'x', 'else', 'x'), (), True, False])

    def test_grammars(self):
        self.assertEqual(
            [str(SUMS), SUMS.start, SUMS.terminals, SUMS["neg"], SUMS.of("E"), ("neg", "E", ("-", "E")) in SUMS],
            ['grammar of 4 productions', 'E', ('*', '+', '-', 'n'), ('neg', 'E', ('-', 'E')), ('num', 'plus', 'times', 'neg'), True])

    def test_what_nonterminals_lead_to(self):
        self.assertEqual(
            [SUMS.firsts("E"), SUMS.follows("E"), SUMS.least("E"), NEST.firsts("A"), NEST.firsts("S"), NEST.follows("A")],
            [('-', 'n'), ('$', '*', '+'), ('n',), ('',), ('c',), ('c',)])

    def test_other_grammars(self):
        self.assertEqual(
            [(SUMS - "neg").lines, (SUMS - "neg").is_part_of(SUMS), renamed(ELSE, symbols={"S": "Stmt"}, names={"act": "step"}).lines[2]],
            [('num: E -> n', 'plus: E -> E + E', 'times: E -> E * E'), True, 'step: Stmt -> x'])

    def test_no_grammar(self):
        with self.assertRaises(InvalidGrammar):
            SUMS - "num"

    def test_the_printed_grammars(self):
        self.assertEqual(SUMS.productions, (("num", "E", ("n",)), ("plus", "E", ("E", "+", "E")),
                                            ("times", "E", ("E", "*", "E")), ("neg", "E", ("-", "E"))))
        self.assertEqual(ELSE.productions, (("cond", "S", ("if", "S")), ("both", "S", ("if", "S", "else", "S")),
                                            ("act", "S", ("x",))))
        self.assertEqual(NEST.productions, (("push", "S", ("A", "S", "b")), ("base", "S", ("c",)), ("none", "A", ())))
        self.assertEqual(PAIRS.productions, (("one", "S", ("a", "A", "a")), ("two", "S", ("b", "A", "b")),
                                             ("three", "S", ("a", "B", "b")), ("four", "S", ("b", "B", "a")),
                                             ("ca", "A", ("c",)), ("cb", "B", ("c",))))

    def test_the_printed_lines(self):
        self.assertEqual(SUMS.lines[1], "plus: E -> E + E")
        self.assertEqual(NEST.lines[2], "none: A ->")


class TestTreesTablesAndParsers(unittest.TestCase):
    def test_trees(self):
        tree = ("plus", (("num", ("n",)), "+", ("times", (("num", ("n",)), "*", ("num", ("n",))))))
        self.assertEqual(
            [is_tree(SUMS, tree), text_of(SUMS, tree), size_of(SUMS, tree), part_at(SUMS, tree, (2, 1)), list(paths(ELSE, ("act", ("x",))))],
            [True, ('n', '+', 'n', '*', 'n'), (5, 3), '*', [(), (0,)]])
        self.assertEqual(
            [count_trees(SUMS, text_of(SUMS, tree)), [each[0] for each in all_trees(SUMS, text_of(SUMS, tree))], list(all_trees(ELSE, text_of(ELSE, FAR))) == [NEAR, FAR]],
            [2, ['plus', 'times'], True])
        self.assertEqual(count_trees(SUMS, ("n",) + ("+", "n") * 20), 6564120420)

    def test_tables(self):
        table = Table(SUMS, "slr")
        self.assertEqual(
            [str(table), table.walk(("E", "+", "E")), table.items(8), table[(8, "+")], table[(8, "$")], table[(0, "+")], (8, "n") in table],
            ['slr table of 9 states, 6 conflicts', 8, (('plus', 1), ('plus', 3), ('times', 1)), ('plus', 'shift'), ('plus',), (), False])
        self.assertEqual(
            [str(Table(ELSE)), list(Table(ELSE, kind="lr1").conflicts), [str(Table(PAIRS, kind)) for kind in KINDS[2:]]],
            ['lalr table of 7 states, 1 conflicts', [(7, 'else')], ['lalr table of 13 states, 2 conflicts', 'lr1 table of 14 states, 0 conflicts']])
        self.assertEqual(
            [Table(PAIRS).lookaheads(4, "ca"), Table(PAIRS, "lr1").lookaheads(4, "ca"), Table(NEST, "lr0")[(0, "$")], Table(NEST)[(0, "c")], Table(PAIRS, "lr1").core(7)],
            [('a', 'b'), ('a',), ('none',), ('none', 'shift'), 4])

    def test_levels(self):
        self.assertEqual(
            [str(arith), arith.of_terminal("-"), arith.of_production(SUMS["neg"]), arith.prefers(SUMS, "*", "plus"), arith.prefers(SUMS, "*", "neg"), Levels().prefers(SUMS, "*", "plus")],
            ['left +, left *', None, 1, 'shift', 'neg', 'shift'])
        made = arith(Table(SUMS, "slr"))
        self.assertEqual(
            [made[(8, "*")], made[(8, "+")], made[(7, "*")], made[(4, "*")], len(made), is_contained(settled(Table(SUMS, "slr")), made)],
            ['shift', 'plus', 'times', 'neg', 23, True])
        self.assertIsNone(Levels((("none", ("+",)),))(Table(SUMS, "slr")).get((8, "+")))
        self.assertEqual(
            [str(arith + ("none", ())), str(Levels()), Levels(order=("cb",))(Table(PAIRS))[(4, "a")], Levels()(Table(PAIRS))[(4, "a")]],
            ['left +, left *, none', 'no levels', 'cb', 'ca'])

    def test_parsers(self):
        self.assertEqual(
            [str(usual), usual(("n", "+")), usual.tree(("n", "*", "n"))[0], ("n", "+", "n") in usual, "n" in usual, none(("c",))],
            ['slr parser with 23 actions', ('refused', 2), 'times', True, False, ('endless', 0)])
        self.assertEqual(list(Parser.by(ELSE, Levels()).steps(("x",))),
                         [((0,), 'x', 'shift'), ((0, 2), '$', 'act'), ((0, 3), '$', 'accept')])
        self.assertEqual(
            [list(none.steps(("c",))), Parser.by(ELSE, Levels()).tree(text_of(ELSE, FAR)) == NEAR],
            [[((0,), 'c', 'none'), ((0, 2), 'c', 'none'), ((0, 2, 2), 'c', None)], True])


class TestWishes(unittest.TestCase):
    def test_labels_and_demands(self):
        table, fine = Table(ELSE), Table(ELSE, "lr1")
        self.assertEqual(
            [label(table, NEAR, (1,)), label(table, NEAR, (1, 1)), label(table, NEAR, (1, 3)), demanded(table, NEAR, (1, 2)), demanded(table, NEAR, (1, 3))],
            [(1, 'S', 'if', '$'), (1, 'S', 'x', 'else'), (5, 'S', 'x', '$'), ((4, 'else'), 'shift'), ((2, '$'), 'act')])
        self.assertEqual([demand for demand in demands(table, FAR) if demand[0][0] == 4],
                         [((4, 'else'), 'cond'), ((4, 'else'), 'shift')])
        self.assertEqual(
            [clash(table, (NEAR,)), clash(table, (FAR,)), clash(fine, (FAR,)), clash(fine, (NEAR, FAR)), clash(table, ())],
            [None, (4, 'else'), None, (7, 'else'), None])
        self.assertEqual(
            [len(least_of(table, (NEAR,))), is_built(Parser(table, least_of(table, (NEAR,))), NEAR), missing(Parser(table, Levels()(table)), FAR)],
            [10, True, (((4, 'else'), 'cond'),)])

    def test_filters(self):
        deep = ("times", (("num", ("n",)), "*", ("neg", ("-", ("plus", (("num", ("n",)), "+", ("num", ("n",))))))))
        self.assertEqual(
            [USUAL.allows(SUMS, deep), USUAL.broken(SUMS, deep), USUAL.fits(ELSE), len(USUAL), ("child", "neg", 1, "plus") in USUAL],
            [False, (((2,), ('child', 'neg', 1, 'plus')),), False, 6, True])
        self.assertEqual(
            [len(list(USUAL.allowed(SUMS, ("n", "+", "n", "*", "n", "+", "n")))), edge(SUMS, deep, (), "right"), edge(SUMS, deep, (2,), "left")],
            [1, ((), (2,), (2, 1), (2, 1, 2)), ((2,),)])
        low = Filter((("right", "times", 0, "neg"), ("right", "plus", 0, "neg")))
        self.assertEqual(
            [str(USUAL | low), (USUAL | low) - USUAL == low, low.allows(SUMS, deep), str(Wishes(low, (deep,))), Wishes(trees=(deep,)).wants(SUMS, deep)],
            ['filter of 8 bars', True, True, 'wishes with 2 bars and 1 trees', True])

    def test_surveys(self):
        firsts, spots = filter_survey(Table(ELSE), Filter())
        self.assertEqual(
            [[spot[:3] for spot in spots], firsts[spots[0]]],
            [[(0, 'S', '$'), (1, 'S', '$'), (1, 'S', 'else'), (5, 'S', '$'), (5, 'S', 'else')], ('if', 'x')])
        whole = (0, "S", "$", (), (), ())
        self.assertEqual(
            list(chains(Table(NEST), Filter(), whole, "push", filter_survey(Table(NEST), Filter())[0])),
            [('c', ((0, 'A', 'c', (), (), ()), (2, 'S', 'b', (), (), ())), (((4, 'b'), 'shift'), ((5, '$'), 'push')))])
        self.assertEqual([pair for pair in filter_demands(Table(ELSE), Filter(), (firsts, spots)) if pair[0][0] == 4],
                         [((4, '$'), 'cond'), ((4, 'else'), 'cond'), ((4, 'else'), 'shift')])

    def test_papers(self):
        self.assertEqual(
            [clashes(Table(ELSE), Wishes(Filter())), clashes(Table(ELSE), Wishes(DANGLING)), len(least_resolution(Table(ELSE), Wishes(DANGLING)))],
            [((4, 'else'),), (), 13])
        self.assertEqual(
            [wishes_paper(Table(ELSE), Wishes(trees=(NEAR, FAR)))[:2], wishes_paper(Table(ELSE), Wishes(trees=(NEAR,)))[2]],
            [('clash', (4, 'else')), None])
        self.assertEqual([wishes_paper(Table(PAIRS, kind), Wishes(Filter()))[0] for kind in KINDS],
                         ['clash', 'clash', 'clash', 'resolution'])
        self.assertEqual(tree_demanding(Table(PAIRS), Wishes(Filter()), (4, "a"), "cb"), ('four', ('b', ('cb', ('c',)), 'a')))


class TestParsersAgainstWishesAndParsers(unittest.TestCase):
    def test_nothing_else_and_nothing_missed(self):
        self.assertEqual([is_exact(calm, USUAL), least_beyond(calm, USUAL), within_paper(calm, USUAL)[0], missed_paper(calm, Filter())[0]],
                         [True, None, 'within', 'missed'])
        self.assertEqual(
            [least_beyond(Parser(Table(SUMS), {**calm.resolution, (8, "*"): "plus"}), USUAL), can_be_exact(Table(ELSE), Filter()), can_be_exact(Table(ELSE), DANGLING)],
            [('n', '+', 'n', '*', 'n'), False, True])

    def test_levels_for_a_resolution(self):
        self.assertEqual([levels_paper(Table(SUMS), calm.resolution)[0], is_levels_paper(Table(SUMS), calm.resolution, fitting)],
                         ['levels', True])
        odd = {(4, "*"): "neg", (7, "+"): "shift", (8, "*"): "shift", (8, "+"): "plus"}
        self.assertEqual(
            [can_fit(Table(SUMS), odd), levels_paper(Table(SUMS), odd)[0], can_fit(Table(SUMS), odd, free=("times",)), free_needed(Table(SUMS), odd)],
            [False, 'way', True, (('times',),)])

    def test_parsers_compared(self):
        low = Parser.by(SUMS, Levels((("left", ("-",)), ("left", ("+",)), ("left", ("*",)))))
        self.assertEqual([are_alike(calm, Parser.by(SUMS, fitting[1])), least_parting(calm, low), comparison_paper(calm, low)[0]],
                         [True, ('-', 'n', '*', 'n'), 'parted'])
        wider = Parser.by(ELSE + ("loop", "S", ("while", "S")), Levels())
        self.assertEqual(
            [inclusion_paper(Parser.by(ELSE, Levels()), wider)[0], kinds_alike(ELSE, Levels()), kinds_alike(PAIRS, Levels())],
            ['inside', (('lalr', 'lr0', 'lr1', 'slr'),), (('lalr', 'lr0', 'slr'), ('lr1',))])
        shifts = Grammar.from_lines("one: S -> A b", "letter: A -> a")
        self.assertEqual(least_outside(Parser.by(shifts, Levels()), Parser.by(shifts + ("two", "S", ("a", "b", "x")), Levels())),
                         ('a', 'b'))

    def test_cells_that_runs_meet(self):
        self.assertEqual(
            [text_to(near, (4, "else")), (4, "if") in cells_met(near), len(cells_met(near)), len(refusing(near)), endless_text(near), endless_text(none)],
            [('if', 'x', 'else'), False, 22, 9, None, ('c',)])
        self.assertEqual(list(lost_texts(Parser(Table(ELSE), {**near.resolution, (4, "else"): "cond"}), most=5)),
                         [('if', 'x', 'else', 'x'), ('if', 'if', 'x', 'else', 'x'), ('if', 'x', 'else', 'if', 'x')])


class TestGrammarsProjectsAndTexts(unittest.TestCase):
    def test_the_grammar_written_out(self):
        starts, rows = written_out(near)
        self.assertEqual([starts, [name for label, name, parts in rows if label[:2] == (0, "S")]],
                         [((0, 'S', 'if', '$'), (0, 'S', 'x', '$')), ['both', 'both', 'both', 'both', 'cond', 'cond', 'act']])
        self.assertEqual(
            [list(readings(ELSE, (starts, rows), ("if", "if", "x", "else", "x"))) == [NEAR], list(readings(ELSE, (starts, rows), ("if",)))],
            [True, []])

    def test_a_project(self):
        project = Project(ELSE)
        self.assertEqual(
            [project.allow(DANGLING), project.keep(("if", "x", "else", "x")), project.parser == near, project.add(("loop", "S", ("while", "S")))],
            [None, None, True, None])
        self.assertEqual(
            [str(project), project.change(), project.log, project.undo(many=2), project.change(), list(project)],
            ['project of 4 productions, 0 trees, 1 texts', None, ('allow', 'keep', 'add'), 1, None, []])
        with self.assertRaises(Refused):
            project.want(FAR)

    def test_texts(self):
        self.assertEqual(
            [write_tree(ELSE, NEAR), read_tree(ELSE, "cond if act x"), write_grammar(NEST).split("\n")[2], read_filter(write_filter(USUAL)) == USUAL],
            ['cond if both if act x else act x', ('cond', ('if', ('act', ('x',)))), 'none: A ->', True])
        self.assertEqual(
            [write_resolution({(8, "+"): "plus", (3, "$"): "accept"}), write_levels(Levels((("left", ("+", "-")), ("none", ())), own={"neg": None}))],
            ['3 $ accept\n8 + plus', 'left + -\nnone\nown neg -'])
        with self.assertRaises(ParseError):
            read_resolution("8 + plus\n3 $ accept")

    def test_texts_in_the_words_of_the_document(self):
        tree = ("plus", (("num", ("n",)), "+", ("num", ("n",))))
        self.assertEqual([write_tree(SUMS, tree), write_resolution({(8, "+"): "plus"}), write_filter(Filter((("child", "neg", 1, "plus"),)))],
                         ["plus num n + num n", "8 + plus", "child neg 1 plus"])
        self.assertEqual(write_levels(Levels((("left", ("+",)), ("none", ()), ("none", ())), own={"neg": 2})).split("\n")[3], "own neg 2")

    def test_a_shell(self):
        shell = Shell(Project(ELSE))
        self.assertEqual(
            [shell(line) for line in ("clashes ", "allow right both 1 cond", "parse if if x else x", "keep if x", "lost 5", "demands act x", "undo 1")],
            ['4 else', 'done', 'cond if both if act x else act x', 'done', '-', '0 x shift, 2 $ act, 3 $ accept', '1'])
        with self.assertRaises(Refused):
            shell("want both if cond if act x else act x")


if __name__ == "__main__":
    unittest.main()
