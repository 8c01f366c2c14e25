"""A shell: each line does what the method of the project does [18.1]; stage 18."""

import random
import unittest

from chosentrees.base.grammars import Grammar
from chosentrees.base.symbols import write_terminals
from chosentrees.base.trees import all_trees
from chosentrees.compare.met import lost_texts
from chosentrees.errors import (GrammarError, InvalidFilter, InvalidGrammar, InvalidNumber, InvalidOperation, InvalidText, InvalidTree,
                                InvalidWishes, NothingToUndo, ParseError, Refused, TooMany)
from chosentrees.project.project import Project
from chosentrees.table.tables import KINDS, Table
from chosentrees.text.shell import Shell
from chosentrees.text.texts import read_filter, write_filter, write_levels, write_tree
from chosentrees.wish.filters import Filter, Wishes
from chosentrees.wish.labels import demands
from chosentrees.wish.papers import clashes

import plain_trees
from plain_outcomes import long_lines
from samples import DANGLING, ELSE, NEST, ODD, PAIRS, SUMS, USUAL, chain_of
from small import some_texts, told_grammars
from small_filters import some_filters
from test_project import told


def bars_line(bars):
    """A filter as it stands in a line."""
    return write_filter(bars).replace("\n", " ; ")


def plain_result(project, word, rest):
    """The result of a line that asks for something, by the functions that it stands for."""
    if word == "parse":
        outcome = project.parser(rest)
        return write_tree(project.grammar, outcome[1]) if outcome[0] == "tree" else f"{outcome[0]} {outcome[1]}"
    if word == "demands":
        return ", ".join(f"{cell[0]} {cell[1]} {action}" for cell, action in demands(project.table, rest))
    if word == "clashes":
        return ", ".join(f"{cell[0]} {cell[1]}" for cell in clashes(project.table, Wishes(rest))) or "-"
    if word == "levels":
        return "none" if project.levels() is None else write_levels(project.levels()).replace("\n", " ; ")
    if word == "change":
        return "-" if project.change() is None else write_terminals(project.change())
    if word == "lost":
        texts = list(lost_texts(project.parser, most=rest))
        return " ; ".join(write_terminals(text) for text in texts) if texts else "-"
    return " ; ".join(project.grammar.lines)


class TestAgainstProjects(unittest.TestCase):
    def lines(self, project, grammar, chooser):
        """Some lines with the words and arguments that they stand for."""
        texts = some_texts(project.grammar, 4, 60)
        trees = [tree for text in texts for tree in list(all_trees(project.grammar, text))[:3]] + list(project.wishes.trees)
        text = chooser.choice([each for each in texts if each in project.parser][:5] + texts[-2:])
        tree = chooser.choice(trees) if trees else None
        bars = chooser.choice(list(some_filters(grammar, chooser, 2)))
        kind, many, most = chooser.choice(KINDS), chooser.choice((0, 1, 2, 7)), chooser.randrange(4)
        production = ("new", chooser.choice(project.grammar.nonterminals), (chooser.choice(project.grammar.terminals + ("new",)),) * chooser.randrange(1, 3))
        words = write_terminals(text)
        rows = [(f"allow {bars_line(bars)}", "allow", bars), ("free", "allow", None), (f"use {kind}", "use", kind), (f"keep {words}", "keep", text),
                (f"release {words}", "release", text), (f"undo {many}", "undo", many), (f"redo {many}", "redo", many), (f"parse {words}", "parse", text),
                (f"clashes {bars_line(bars)}", "clashes", bars), ("levels", "levels", None), ("change", "change", None), (f"lost {most}", "lost", most),
                ("show", "show", None), (f"add {production[0]}: {production[1]} -> {' '.join(production[2])}", "add", production)]
        if tree is not None:
            line = write_tree(project.grammar, tree)
            rows += [(f"want {line}", "want", tree), (f"drop {line}", "drop", tree), (f"demands {line}", "demands", tree)] * 2
        return rows

    def test_random_lines(self):
        chooser = random.Random(107)
        seen = {}
        for grammar in told_grammars()[:16]:
            project = Project(grammar)
            shell, twin = Shell(project), Project(grammar)
            log = []
            for _ in range(25):
                line, word, argument = chooser.choice(self.lines(project, grammar, chooser))
                result, error = self.by_project(twin, word, argument)
                if error is None:
                    call = chooser.choice((shell, shell.do, lambda line: next(shell.results((line,)))))
                    self.assertEqual(call(line), result, line)
                    log.append(line)
                else:
                    with self.assertRaises(error):
                        shell(line)
                self.assertEqual((told(project), project == twin, shell.log), (told(twin), True, tuple(log)))
                seen[(word, error is None)] = seen.get((word, error is None), 0) + 1
        for word in "allow use keep release undo redo parse clashes levels change lost show add want drop demands".split(" "):
            self.assertGreater(seen.get((word, True), 0), 0, seen)

    def by_project(self, project, word, argument):
        """The result of the project, or the class of its error."""
        try:
            if word in ("undo", "redo"):
                return str(getattr(project, word)(many=argument)), None
            if word in ("want", "drop", "allow", "add", "use", "keep", "release"):
                getattr(project, word)(argument)
                return "done", None
            return plain_result(project, word, argument), None
        except (GrammarError, TooMany, InvalidNumber, NothingToUndo, Refused) as error:
            return None, type(error)


class TestLines(unittest.TestCase):
    def test_each_line(self):
        project = Project(ELSE)
        shell = Shell(project)
        rows = [("want cond if act x", "done"), ("want both if act x else act x", "done"), ("drop cond if act x", "done"), ("allow right both 1 cond", "done"),
                ("keep if x", "done"), ("use lr1", "done"), ("add loop: S -> while S", "done"), ("undo 2", "5"), ("redo 1", "6"), ("redo 1", "7"),
                ("undo 0", "7"), ("release if x", "done"), ("free", "done"), ("change", "x"), ("undo 1", "8"), ("change", "-"), ("clashes right both 1 cond", "-"),
                ("parse while x", "loop while act x"), ("parse", None), ("parse if", "refused 1"), ("parse x x", "refused 1"), ("parse ", "refused 0"),
                ("show", "cond: S -> if S ; both: S -> if S else S ; act: S -> x ; loop: S -> while S"), ("lost 0", "-"), ("lost 6", "-")]
        for line, wanted in rows:
            if wanted is None:
                with self.assertRaises(InvalidOperation):
                    shell(line)
            else:
                self.assertEqual(shell(line), wanted, line)
        self.assertEqual(shell.log, tuple(line for line, wanted in rows if wanted is not None))
        self.assertIs(shell.project, project)
        self.assertEqual(project.log, ("want", "want", "drop", "allow", "keep", "use", "add", "release"))

    def test_texts_without_terminals(self):
        grammar = Grammar.from_lines("one: S -> a S b", "two: S ->")
        shell = Shell(Project(grammar))
        self.assertEqual([shell("allow "), shell("parse "), shell("keep "), shell("lost 2"), shell("release "), shell("free"), shell("change"), shell("lost 0"),
                          shell("lost 2")], ["done", "two", "done", "-", "done", "done", "", "", " ; a b"])
        with self.assertRaises(InvalidOperation):
            shell("release ")
        for line in ("parse", "keep", "release"):
            with self.assertRaises(InvalidOperation):
                shell(line)

    def test_levels(self):
        shell = Shell(Project(SUMS))
        self.assertEqual([shell("levels"), shell(f"allow {bars_line(USUAL)}")], ["", "done"])
        self.assertEqual(shell("levels"), write_levels(shell.project.levels()).replace("\n", " ; "))
        self.assertEqual(shell("levels").count(" ; "), 2)
        shell = Shell(Project(PAIRS))
        self.assertEqual([shell(line) for line in ("want one a ca c a", "want three a cb c b", "levels")], ["done", "done", "none"])

    def test_great_trees(self):
        grammar = Grammar.from_lines("a: S -> A S", "b: S -> x", "c: A -> B", "d: B -> C", "e: C -> D", "f: D -> E", "g: E -> y")
        shell = Shell(Project(grammar))
        shell("allow ")
        text = " ".join(["y"] * 59 + ["x"])
        tree = shell.project.parser.tree(("y",) * 59 + ("x",))
        self.assertEqual(plain_trees.node_count(tree), 355)
        self.assertEqual(shell(f"parse {text}"), " ".join(part if isinstance(part, str) else part[0] for path, part in plain_trees.nodes(tree)))
        shell(f"keep {text}")
        self.assertEqual(list(shell.project), [("y",) * 59 + ("x",)])

    def test_clashes_and_demands(self):
        shell = Shell(Project(SUMS))
        self.assertEqual(shell("clashes "), "4 *, 4 +, 7 *, 7 +, 8 *, 8 +")
        self.assertEqual(shell(f"clashes {bars_line(USUAL)}"), "-")
        self.assertEqual(shell("demands neg - num n"), "0 - shift, 1 n shift, 2 $ num, 3 $ accept, 4 $ neg")
        self.assertEqual(shell.project, Project(SUMS))

    def test_results_are_done_when_they_are_asked_for(self):
        shell = Shell(Project(ELSE))
        made = shell.results(("want act x", "undo 1", "odd", "want act x"))
        self.assertEqual((shell.log, shell.project.log), ((), ()))
        self.assertEqual((next(made), shell.project.log), ("done", ("want",)))
        self.assertEqual((next(made), shell.log), ("0", ("want act x", "undo 1")))
        with self.assertRaises(InvalidOperation):
            next(made)
        self.assertEqual((shell.project.log, list(shell.results(()))), ((), []))
        for wrong in ODD + ["show", ["show"], {"show": 1}, shell]:
            if not isinstance(wrong, tuple):
                made = shell.results(wrong)
                with self.assertRaises(InvalidOperation):
                    next(made)
        self.assertEqual(list(shell.results(("show", "show"))), [" ; ".join(ELSE.lines)] * 2)

    def test_the_project_itself(self):
        project = Project(ELSE)
        one, other = Shell(project), Shell(project)
        one("want act x")
        project.keep(("x",))
        self.assertEqual((other("undo 1"), other.log, one.log), ("1", ("undo 1",), ("want act x",)))
        with project.trial():
            one("undo 1")
        self.assertEqual((project.log, one.log), (("want",), ("want act x", "undo 1")))


class TestErrors(unittest.TestCase):
    def assert_error(self, shell, line, error):
        """The line raises this error, and nothing has changed."""
        before, log = told(shell.project), shell.log
        with self.assertRaises(error, msg=line) as caught:
            shell(line)
        self.assertIs(type(caught.exception), error, line)
        self.assertEqual((told(shell.project), shell.log), (before, log))
        if error is ParseError:
            self.assertIs(caught.exception.line, None)

    def test_no_lines(self):
        shell = Shell(Project(ELSE))
        wrong = [value for value in ODD] + ["", " ", "show ", " show", "show x", "free ", "free x", "levels ", "change ", "want", "drop", "allow", "add", "use",
                                           "keep", "release", "undo", "redo", "parse", "demands", "clashes", "lost", "Want act x", "want\tact x", "keep x\n",
                                           "\nkeep x", "keep\nx", "odd x", "do show", "results", "project", "twin", "trial", "use ", "use lr", "use LALR", "use lalr ",
                                           "undo ", "undo -1", "undo 01", "undo 00", "undo +1", "undo 1 ", "undo  1", "undo x", "undo 12345", "redo 1.0", "redo 10000",
                                           "lost ", "lost x", "lost 10", "lost -1", "lost 00", "lost 5 ", "lost 1 2"]
        for line in wrong:
            for call in (shell, shell.do):
                with self.assertRaises(InvalidOperation):
                    call(line)
        self.assertEqual((shell.log, shell.project), ((), Project(ELSE)))
        for word in ("keep x", "want act x", "show", "allow ", "add more: S -> y"):
            for odd in (word + "\n", "\n" + word):
                self.assert_error(shell, odd, InvalidOperation)

    def test_wrong_values_in_lines(self):
        shell = Shell(Project(ELSE))
        for line in ("want ", "want act", "want x", "want act y", "want act x ", "want  act x", "want act x x", "drop odd", "drop ", "demands act", "demands ",
                     "keep x ", "keep  x", "keep X", "keep ++", "keep $", "release x  x", "release X", "parse X", "parse  ", "keep " + " ".join(["x"] * 61),
                     "add ", "add new", "add new: S", "add new: S -> ", "add new: s -> x", "add shift: S -> x", "add new: S -> a b c d e f", "add new:S -> x",
                     "allow child", "allow child both 1", "allow  ", "allow right both 1 cond;child both 1 act", "allow right both 1 cond ;  child both 1 act",
                     "allow right both 1 cond ; ", "allow right both 1 cond ; child both 1 act", "allow right both 5 cond", "clashes odd", "clashes right both 1 cond ;",
                     "allow right both 1 cond ; right both 1 cond", "want " + write_tree(SUMS, chain_of(5)), "keep x\ty"):
            self.assert_error(shell, line, ParseError)
        rows = sorted(("child", "s", at, name) for at in range(5) for name in "abcdefghijklmno")[:61]
        full = Shell(Project(Grammar.from_lines("s: S -> A A A A A", *[f"{name}: A -> {name}" for name in "abcdefghij"])))
        line = " ; ".join(" ".join(map(str, bar)) for bar in rows)
        self.assert_error(full, f"allow {line}", ParseError)
        self.assert_error(full, f"clashes {line}", ParseError)
        deep = Shell(Project(SUMS))
        self.assert_error(deep, "want " + " ".join(["neg -"] * 200 + ["num n"]), ParseError)
        self.assertEqual(deep("want " + " ".join(["neg -"] * 199 + ["num n"])), "done")

    def test_errors_of_the_project_and_of_the_functions(self):
        shell = Shell(Project(ELSE))
        shell("want act x")
        shell("keep x")
        long = Shell(Project(Grammar.from_lines(*long_lines("C C C z"))))
        long("allow ")
        long("free")
        for each, line, error in ((shell, "want act x", InvalidOperation), (shell, "drop cond if act x", InvalidOperation), (shell, "keep y", InvalidText),
                                  (shell, "keep if", InvalidOperation), (shell, "keep x", InvalidOperation), (shell, "release y", InvalidOperation),
                                  (shell, "add act: S -> z", InvalidGrammar), (shell, "add new: S -> S", InvalidGrammar), (shell, "allow right num 1 cond", InvalidFilter),
                                  (shell, "clashes right num 1 cond", InvalidWishes), (shell, "drop act x", Refused), (shell, "undo 3", NothingToUndo),
                                  (shell, "redo 1", NothingToUndo), (shell, "redo 9999", NothingToUndo), (shell, "lost 7", InvalidNumber), (shell, "lost 9", InvalidNumber),
                                  (shell, "parse y", InvalidText), (shell, "release if", InvalidOperation)):
            self.assert_error(each, line, error)
        with self.assertRaises(TooMany):
            long("change")
        nest = Shell(Project(NEST))
        for line in ("want none", "demands none"):
            self.assert_error(nest, line, InvalidTree)
        self.assert_error(nest, "drop none", InvalidOperation)
        self.assertEqual(shell.log, ("want act x", "keep x"))

    def test_no_projects(self):
        for wrong in ODD + [Table(ELSE), Shell(Project(ELSE)), Filter()]:
            with self.assertRaises(InvalidOperation):
                Shell(wrong)
        with self.assertRaises(TypeError):
            iter(Shell(Project(ELSE)))
        self.assertEqual(read_filter(bars_line(DANGLING)), DANGLING)


if __name__ == "__main__":
    unittest.main()
