"""Projects [16.1] [0.22] [0.26]; stage 16."""

import random
import unittest

from chosentrees.base.grammars import Grammar
from chosentrees.base.trees import all_trees
from chosentrees.compare.compared import least_outside
from chosentrees.errors import (GrammarError, InvalidFilter, InvalidGrammar, InvalidNumber, InvalidOperation, InvalidText, InvalidTree,
                                NothingToUndo, Refused, TooMany)
from chosentrees.project.project import MAX_KEPT, MAX_STEPS, Project
from chosentrees.run.parsers import Parser
from chosentrees.table.levels import Levels, is_contained
from chosentrees.table.tables import KINDS, Table
from chosentrees.wish.filters import Filter, Wishes
from chosentrees.wish.labels import is_built
from chosentrees.wish.papers import is_wishes_paper, least_resolution
from chosentrees.wish.ranking import is_levels_paper

import plain_trees
from plain_outcomes import long_lines, order
from plain_project import PlainProject
from samples import DANGLING, ELSE, FAR, NEAR, NEST, ODD, PAIRS, SUMS, USUAL, chain_of, comb_of, nested
from small import some_texts, told_grammars
from small_filters import some_filters
from test_surveys import wide_filter
from test_tables import OVER

ACT = ("act", ("x",))
SHORT = ("cond", ("if", ACT))


def told(project):
    """All that a project tells."""
    return (project.grammar, project.kind, project.wishes, project.table, project.resolution, project.parser, project.kept,
            project.log, project.change(), len(project), list(project), str(project), list(project.kept))


def redo_count(project):
    """How many steps can be done again."""
    return project.during(lambda same: same.redo(many=next(many for many in range(300) if cannot_redo(same, many + 1)))) - len(project.log)


def cannot_redo(project, many):
    """Whether so many steps cannot be done again."""
    try:
        project.during(lambda same: same.redo(many=many))
    except NothingToUndo:
        return True
    return False


class TestAgainstPlainProjects(unittest.TestCase):
    def compare(self, project, plain):
        values = plain.values
        self.assertEqual((project.grammar, project.kind, project.kept), (values["grammar"], values["kind"], values["kept"]))
        self.assertEqual(project.wishes, Wishes(values["bars"], tuple(values["trees"])))
        self.assertEqual((project.log, project.table), (tuple(plain.log), Table(values["grammar"], values["kind"])))
        parser = plain.parser()
        self.assertEqual((project.parser, project.resolution, list(project.resolution)),
                         (parser, parser.resolution, sorted(parser.resolution)))
        self.assertEqual((list(project), list(project.kept)), (sorted(values["kept"], key=order), sorted(values["kept"])))
        self.assertEqual((len(project), str(project)), (len(values["grammar"]), f"project of {len(values['grammar'])} productions, "
                         f"{len(values['trees'])} trees, {len(values['kept'])} texts"))
        wanted = None
        if plain.former is not None and len(plain.former.grammar) <= len(values["grammar"]):
            wanted = least_outside(plain.former, parser)
        self.assertEqual(project.change(), wanted)
        for text, tree in values["kept"].items():
            self.assertEqual(project.parser.tree(text), tree)

    def some_call(self, grammar, project, chooser):
        """A word and an argument, more often one that can be done."""
        word = chooser.choice(("want", "want", "want", "drop", "allow", "allow", "add", "use", "keep", "keep", "keep",
                               "release" if list(project) else "keep", "undo", "redo"))
        texts = some_texts(project.grammar, 4, 60)
        trees = [tree for text in texts for tree in list(all_trees(project.grammar, text))[:4]]
        names = [name for name in ("new", "more", "odd") if name not in project.grammar.names] + ["new"]
        symbols = project.grammar.terminals + project.grammar.nonterminals
        choices = {
            "want": trees + list(project.wishes.trees), "drop": list(project.wishes.trees) + trees[:1], "use": list(KINDS) + ["lr"],
            "allow": list(some_filters(grammar, chooser, 2))[1:] + [None, Filter()], "keep": [text for text in texts if text in project.parser] + texts[:2],
            "release": list(project) * 3 + texts[:1], "undo": [0, 1, 1, 1, 2, 3, 9], "redo": [0, 1, 1, 2, 9, -1],
            "add": [(names[0], chooser.choice(project.grammar.nonterminals), tuple(chooser.choice(symbols) for _ in range(chooser.randrange(4))))]}
        return word, chooser.choice(choices[word] or [None])

    def test_random_steps(self):
        chooser = random.Random(79)
        seen = {}
        for grammar in told_grammars()[:16] * 2:
            kind = chooser.choice(KINDS)
            project, plain = Project(grammar, kind=kind), PlainProject(grammar, kind)
            for _ in range(18):
                word, argument = self.some_call(grammar, project, chooser)
                before = told(project)
                outcome = self.do_both(project, plain, word, argument)
                if outcome not in ("done", "number"):
                    self.assertEqual(told(project), before)
                self.compare(project, plain)
                seen[(word, outcome)] = seen.get((word, outcome), 0) + 1
        for word in ("want", "drop", "allow", "add", "use", "keep", "release"):
            self.assertGreater(seen.get((word, "done"), 0), 3, seen)
        self.assertGreater(sum(many for (word, outcome), many in seen.items() if outcome == "Refused"), 20, seen)
        self.assertGreater(sum(many for (word, outcome), many in seen.items() if outcome == "lost"), 2, seen)

    def do_both(self, project, plain, word, argument):
        """Do the same with both, and compare what is returned or raised."""
        keywords = {"many": argument} if word in ("undo", "redo") else {}
        try:
            wanted = getattr(plain, word)(argument)
        except (GrammarError, TooMany, InvalidNumber, NothingToUndo, Refused) as error:
            with self.assertRaises(type(error)) as caught:
                getattr(project, word)(**keywords) if keywords else getattr(project, word)(argument)
            if isinstance(error, Refused):
                return self.check_reason(project, error.reason, caught.exception.reason)
            return type(error).__name__
        made = getattr(project, word)(**keywords) if keywords else getattr(project, word)(argument)
        self.assertEqual(made, wanted)
        return "done" if wanted is None else "number"

    def check_reason(self, project, wanted, reason):
        if wanted == "clash":
            self.assertEqual((reason[0], len(reason)), ("clash", 3))
            return "Refused"
        self.assertEqual(reason, wanted)
        return "lost"


class TestSteps(unittest.TestCase):
    def test_the_beginning(self):
        for kind in KINDS:
            project = Project(ELSE, kind=kind)
            self.assertEqual(told(project), (ELSE, kind, Wishes(), Table(ELSE, kind), {}, Parser(Table(ELSE, kind), {}), {}, (), None, 3, [],
                                             "project of 3 productions, 0 trees, 0 texts", []))
        self.assertEqual((Project(ELSE).kind, MAX_KEPT, MAX_STEPS), ("lalr", 20, 200))

    def test_each_step(self):
        project = Project(ELSE)
        self.assertEqual([project.want(NEAR), project.want(ACT), project.allow(DANGLING), project.keep(("x",)), project.use("lr1"),
                          project.add(("loop", "S", ("while", "S"))), project.drop(NEAR), project.keep(("while", "x")), project.release(("x",))],
                         [None] * 9)
        self.assertEqual(project.log, ("want", "want", "allow", "keep", "use", "add", "drop", "keep", "release"))
        self.assertEqual((project.grammar, project.kind), (ELSE + ("loop", "S", ("while", "S")), "lr1"))
        self.assertEqual((project.wishes, project.kept), (Wishes(DANGLING, (ACT,)), {("while", "x"): ("loop", ("while", ACT))}))
        self.assertEqual(project.resolution, least_resolution(project.table, project.wishes))
        self.assertEqual([project.use("lr1"), project.allow(DANGLING), project.log[-2:]], [None, None, ("use", "allow")])

    def test_told_trees_come_behind_the_others(self):
        project = Project(ELSE, kind="lr1")
        for tree in (SHORT, ACT, NEAR):
            project.want(tree)
        self.assertEqual(project.wishes.trees, (SHORT, ACT, NEAR))
        project.drop(ACT)
        project.want(ACT)
        self.assertEqual(project.wishes.trees, (SHORT, NEAR, ACT))

    def test_adding_by_a_sign(self):
        project = same = Project(ELSE)
        project += ("loop", "S", ("while", "S"))
        self.assertIs(project, same)
        self.assertEqual((project.log, len(same)), (("add",), 4))
        with self.assertRaises(InvalidOperation):
            project += ("loop", "S")
        with self.assertRaises(InvalidGrammar):
            project += ("loop", "S", ("x", "x"))
        with self.assertRaises(InvalidGrammar):
            project += ("self", "S", ("S",))
        self.assertEqual((same.log, len(project)), (("add",), 4))

    def test_refused_by_a_clash(self):
        project = Project(ELSE)
        project.want(NEAR)
        project.keep(plain_trees.text(NEAR))
        before = told(project)
        for call, wishes in ((lambda: project.want(FAR), Wishes(None, (NEAR, FAR))), (lambda: project.allow(Filter()), Wishes(Filter(), (NEAR,)))):
            with self.assertRaises(Refused) as caught:
                call()
            self.assertIs(is_wishes_paper(Table(ELSE), wishes, caught.exception.reason), True)
            self.assertEqual((caught.exception.reason[0], told(project)), ("clash", before))
        project = Project(PAIRS, kind="lr1")
        project.allow(Filter())
        for kind in KINDS[:3]:
            with self.assertRaises(Refused) as caught:
                project.use(kind)
            self.assertIs(is_wishes_paper(Table(PAIRS, kind), Wishes(Filter()), caught.exception.reason), True)
        self.assertEqual((project.kind, project.log), ("lr1", ("allow",)))
        project = Project(Grammar.from_lines("one: S -> A b", "letter: A -> a"))
        project.allow(Filter())
        with self.assertRaises(Refused) as caught:
            project.add(("more", "S", ("a", "b")))
        self.assertEqual(caught.exception.reason[0], "clash")

    def test_refused_as_a_kept_tree_is_lost(self):
        project = Project(ELSE)
        project.allow(DANGLING)
        for text in ("if if x else x", "x", "if x", "if x else x"):
            project.keep(tuple(text.split(" ")))
        before = told(project)
        for call, text in ((lambda: project.allow(None), ("x",)), (lambda: project.allow(Filter.children(("both", 1, "act"))), None)):
            with self.assertRaises(Refused) as caught:
                call()
            if text is not None:
                self.assertEqual(caught.exception.reason, ("lost", text))
            self.assertEqual(told(project), before)
        project = Project(ELSE)
        project.want(NEAR)
        project.want(ACT)
        project.keep(plain_trees.text(NEAR))
        project.keep(("x",))
        with self.assertRaises(Refused) as caught:
            project.drop(NEAR)
        self.assertEqual(caught.exception.reason, ("lost", plain_trees.text(NEAR)))
        with self.assertRaises(Refused) as caught:
            project.drop(ACT)
        self.assertEqual((caught.exception.reason, project.log), (("lost", ("x",)), ("want", "want", "keep", "keep")))

    def test_a_clash_comes_ahead_of_what_is_lost(self):
        project = Project(ELSE)
        project.want(NEAR)
        project.keep(plain_trees.text(NEAR))
        project.allow(DANGLING)
        project.drop(NEAR)
        with self.assertRaises(Refused) as caught:
            project.want(FAR)
        self.assertEqual(caught.exception.reason[0], "clash")

    def test_kept_texts_keep_their_trees_in_another_grammar(self):
        project = Project(Grammar.from_lines("one: S -> A b", "letter: A -> a"))
        tree = ("one", (("letter", ("a",)), "b"))
        project.want(tree)
        project.keep(("a", "b"))
        project.add(("two", "S", ("a", "b", "x")))
        self.assertEqual((project.kept, project.parser.tree(("a", "b"))), ({("a", "b"): tree}, tree))
        self.assertEqual((project.change(), project.parser.tree(("a", "b", "x"))), (None, None))
        with self.assertRaises(Refused) as caught:
            project.want(("two", ("a", "b", "x")))
        self.assertEqual(caught.exception.reason[0], "clash")

    def test_lost_by_another_kind_or_production(self):
        # With lookaheads fewer trees are built beside those that are wanted.
        project = Project(ELSE)
        project.want(NEAR)
        kept = [text for text in some_texts(ELSE, 7, 4000) if text in project.parser]
        fewer = Parser(Table(ELSE, "lr1"), least_resolution(Table(ELSE, "lr1"), Wishes(None, (NEAR,))))
        lost = [text for text in kept if text not in fewer]
        self.assertGreater(len(lost), 1)
        for text in lost[:3][::-1]:
            project.keep(text)
        with self.assertRaises(Refused) as caught:
            project.use("lr1")
        self.assertEqual((caught.exception.reason, project.kind), (("lost", min(lost, key=order)), "lalr"))


class TestLimits(unittest.TestCase):
    def test_twenty_told_trees(self):
        project = Project(SUMS)
        for many in range(1, 21):
            project.want(chain_of(many))
        self.assertEqual(len(project.wishes), 20)
        for call, error in ((lambda: project.want(chain_of(21)), TooMany), (lambda: project.want(chain_of(20)), InvalidOperation),
                            (lambda: project.want(chain_of(201)), InvalidTree)):
            with self.assertRaises(error):
                call()
        with self.assertRaises(TooMany) as caught:
            project.want(chain_of(200))
        self.assertEqual(caught.exception.limit, 20)
        project.drop(chain_of(7))
        project.want(chain_of(200))
        self.assertIs(is_built(project.parser, chain_of(200)), True)
        self.assertIn(chain_of(200), project)

    def test_twenty_kept_texts(self):
        project = Project(SUMS)
        project.allow(USUAL)
        for many in range(1, 21):
            project.keep(("-",) * (21 - many) + ("n",))
        self.assertEqual([len(text) for text in project], list(range(2, 22)))
        for text, error in ((("n",), TooMany), (("-", "n"), InvalidOperation), (("-",), InvalidOperation), (("x",), InvalidText), (("-",) * 61, InvalidText)):
            with self.assertRaises(error):
                project.keep(text)
        project.release(("-",) * 20 + ("n",))
        project.keep(("-",) * 59 + ("n",))
        self.assertEqual(project.kept[("-",) * 59 + ("n",)], chain_of(60))

    def test_two_hundred_steps(self):
        project = Project(ELSE)
        project.allow(DANGLING)
        for at in range(199):
            if at % 2:
                project.release(("x",))
            else:
                project.keep(("x",))
        self.assertEqual(len(project.log), 200)
        before = told(project)
        for call in (lambda: project.keep(("if", "x")), lambda: project.release(("x",)), lambda: project.want(FAR), lambda: project.want(NEAR),
                     lambda: project.allow(Filter()), lambda: project.allow(None), lambda: project.use("slr"), lambda: project.add(("new", "S", ("y",)))):
            with self.assertRaises(TooMany) as caught:
                call()
            self.assertEqual(caught.exception.limit, 200)
        for call, error in ((lambda: project.keep(("x",)), InvalidOperation), (lambda: project.keep(("y",)), InvalidText),
                            (lambda: project.release(("if",)), InvalidOperation), (lambda: project.want(None), InvalidTree),
                            (lambda: project.drop(NEAR), InvalidOperation), (lambda: project.allow(USUAL), InvalidFilter),
                            (lambda: project.use("lr2"), InvalidOperation), (lambda: project.add(("new", "S")), InvalidOperation),
                            (lambda: project.add(("new", "S", ("x",))), InvalidGrammar)):
            with self.assertRaises(error):
                call()
        self.assertEqual(told(project), before)
        self.assertEqual([project.undo(many=1), project.keep(("if", "x")), len(project.log)], [199, None, 200])
        self.assertEqual([project.undo(many=200), project.redo(many=0), project.redo(many=200)], [0, 0, 200])

    def test_tables_and_papers_that_are_too_large(self):
        grammar, bars = wide_filter(9)
        project = Project(grammar)
        with self.assertRaises(TooMany) as caught:
            project.allow(bars)
        self.assertEqual((caught.exception.limit, project.log), (20000, ()))
        project = Project(OVER)
        with self.assertRaises(TooMany) as caught:
            project.use("lr1")
        self.assertEqual((caught.exception.limit, project.kind, project.log), (300, "lalr", ()))
        with self.assertRaises(TooMany):
            Project(OVER, kind="lr1")


class TestChanges(unittest.TestCase):
    def test_what_steps_change(self):
        project = Project(ELSE)
        self.assertIsNone(project.change())
        project.allow(DANGLING)
        self.assertIsNone(project.change())
        project.allow(Filter.children(("both", 1, "both"), ("both", 3, "both"), ("both", 1, "cond"), ("both", 3, "cond")))
        self.assertEqual(project.change(), least_outside(Parser(Table(ELSE), least_resolution(Table(ELSE), Wishes(DANGLING))), project.parser))
        project.allow(None)
        self.assertEqual([project.change(), project.undo(), project.change(), project.undo(many=2), project.change()], [("x",), 2, None, 0, ("x",)])
        self.assertEqual([project.redo(), project.change(), project.redo(many=0), project.change()], [1, None, 1, None])

    def test_fewer_productions(self):
        project = Project(ELSE)
        project.allow(DANGLING)
        project.add(("loop", "S", ("while", "S")))
        self.assertEqual([project.change(), project.undo(), project.change()], [None, 1, None])
        self.assertEqual([project.undo(), project.change(), project.redo(many=2), project.change(), project.undo(many=2), project.change()],
                         [0, ("x",), 2, None, 0, None])

    def test_productions_that_change_old_trees(self):
        # Without the wish for its tree the text is built in another way.
        project = Project(Grammar.from_lines("one: S -> A b", "letter: A -> a"))
        project.allow(Filter())
        project.allow(None)
        project.undo()
        self.assertIsNone(project.change())
        with self.assertRaises(Refused):
            project.add(("two", "S", ("a", "b", "x")))
        self.assertIsNone(project.change())

    def test_kept_texts_change_nothing(self):
        project = Project(ELSE)
        project.allow(DANGLING)
        project.allow(None)
        self.assertEqual(project.change(), ("x",))
        project.undo()
        project.keep(("x",))
        self.assertIsNone(project.change())
        project.release(("x",))
        self.assertIsNone(project.change())

    def test_texts_of_more_than_sixty_terminals(self):
        project = Project(Grammar.from_lines(*long_lines("C C C z")))
        project.allow(Filter())
        project.allow(None)
        with self.assertRaises(TooMany) as caught:
            project.change()
        self.assertEqual(caught.exception.limit, 60)


class TestUndo(unittest.TestCase):
    def make(self):
        project = Project(ELSE)
        project.want(NEAR)
        project.keep(plain_trees.text(NEAR))
        project.use("lr1")
        project.want(ACT)
        return project

    def test_back_and_forth(self):
        project = self.make()
        states = [told(project)[:8]]
        for many in (3, 2, 1, 0):
            self.assertEqual(project.undo(), many)
            states.append(told(project)[:8])
        self.assertEqual(states[-1], told(Project(ELSE))[:8])
        for many in (1, 2, 3, 4):
            self.assertEqual([project.redo(), told(project)[:8]], [many, states[4 - many]])
        self.assertEqual([project.undo(many=3), project.redo(many=2), project.log], [1, 3, ("want", "keep", "use")])
        self.assertEqual([project.redo(), project.log], [4, ("want", "keep", "use", "want")])

    def test_another_step(self):
        project = self.make()
        project.undo(many=2)
        project.use("slr")
        with self.assertRaises(NothingToUndo) as caught:
            project.redo()
        self.assertEqual((caught.exception.many, len(project.log)), (1, 3))
        # Steps that are refused, and wrong calls, leave what can be done again.
        project = self.make()
        project.undo(many=2)
        for call, error in ((lambda: project.want(FAR), Refused), (lambda: project.want(None), InvalidTree), (lambda: project.undo(many=9), NothingToUndo),
                            (lambda: project.drop(ACT), InvalidOperation)):
            with self.assertRaises(error):
                call()
        self.assertEqual([project.undo(many=0), project.redo(many=0), project.redo(many=2)], [2, 2, 4])

    def test_too_many(self):
        project = self.make()
        for many in (5, 6, 10 ** 59):
            with self.assertRaises(NothingToUndo) as caught:
                project.undo(many=many)
            self.assertEqual(caught.exception.many, many)
        for call in (lambda: Project(ELSE).undo(), lambda: Project(ELSE).redo(), project.redo):
            with self.assertRaises(NothingToUndo) as caught:
                call()
            self.assertEqual(caught.exception.many, 1)
        self.assertEqual([Project(ELSE).undo(many=0), Project(ELSE).redo(many=0)], [0, 0])
        for wrong in [value for value in ODD if isinstance(value, bool) or value not in (0, 1, 3, 10 ** 59)] + [-1, "1", (1,), 10 ** 60, -10 ** 59]:
            for call in (project.undo, project.redo):
                with self.assertRaises(InvalidNumber) as caught:
                    call(many=wrong)
                self.assertIs(caught.exception.given, wrong)
        self.assertEqual(len(project.log), 4)


class TestBlocks(unittest.TestCase):
    def test_all_is_as_before(self):
        project = Project(ELSE)
        project.allow(DANGLING)
        project.keep(("x",))
        project.allow(Filter.children(("both", 1, "both"), ("both", 3, "both"), ("both", 1, "cond"), ("both", 3, "cond")))
        project.undo()
        before, again = told(project), redo_count(project)
        with project.trial() as same:
            self.assertIs(same, project)
            same.keep(("if", "x"))
            project.use("lr1")
            project.undo(many=3)
            self.assertNotEqual(told(project), before)
        self.assertEqual((told(project), redo_count(project), again), (before, 1, 1))
        self.assertEqual(project.redo(), 3)

    def test_errors_go_on(self):
        project = Project(ELSE)
        before = told(project)
        with self.assertRaises(Refused):
            with project.trial():
                project.want(NEAR)
                project.want(FAR)
        self.assertEqual(told(project), before)
        with self.assertRaises(ZeroDivisionError):
            with project.trial() as same:
                same.allow(DANGLING)
                raise ZeroDivisionError
        self.assertEqual(told(project), before)
        with self.assertRaises(KeyError):
            project.during(lambda same: same.want(NEAR) or {}["odd"])
        self.assertEqual(told(project), before)

    def test_blocks_within_blocks(self):
        project = Project(ELSE)
        with project.trial():
            project.want(NEAR)
            inner = told(project)
            with project.trial():
                project.want(ACT)
                with self.assertRaises(InvalidOperation):
                    with project.trial():
                        project.drop(NEAR)
                        project.drop(NEAR)
                self.assertEqual(project.wishes.trees, (NEAR, ACT))
            self.assertEqual(told(project), inner)
        self.assertEqual(told(project), told(Project(ELSE)))
        block = project.trial()
        project.want(ACT)
        outer = told(project)
        with block:
            project.want(NEAR)
            inner = told(project)
            with block as same:
                same.undo(many=2)
            self.assertEqual(told(project), inner)
        self.assertEqual(told(project), outer)

    def test_during(self):
        project = Project(ELSE)
        self.assertEqual(project.during(lambda same: [same is project, same.want(NEAR), same.log, same.during(lambda other: other.undo())]),
                         [True, None, ("want",), 0])
        self.assertEqual((project.log, project.during(len), project.during(str)), ((), 3, str(project)))

    def test_twins(self):
        project = Project(ELSE, kind="lr1")
        project.want(NEAR)
        project.allow(DANGLING)
        project.allow(None)
        project.undo()
        twin = project.twin()
        self.assertIsNot(twin, project)
        self.assertEqual((told(twin), twin == project, redo_count(twin)), (told(project), True, 1))
        twin.keep(("x",))
        self.assertEqual((project.log, twin.log, redo_count(project)), (("want", "allow"), ("want", "allow", "keep"), 1))
        project.redo()
        self.assertEqual((project.change(), twin.change()), (("x",), None))
        with project.trial():
            project.undo(many=3)
            twin = project.twin()
        self.assertEqual((twin.log, project.log, twin.redo(many=3)), ((), ("want", "allow", "allow"), 3))


class TestSigns(unittest.TestCase):
    def test_members(self):
        project = Project(ELSE)
        project.allow(DANGLING)
        project.want(NEAR)
        project.keep(("x",))
        for value in (("x",), NEAR):
            self.assertIs(value in project, True)
        for value in ODD + [("if", "x"), FAR, ACT, ELSE, DANGLING, ["x"], "x", project, ("x",) * 61, nested(49)]:
            if value != ("act", ("x",)):
                self.assertIs(value in project, False)

    def test_equal_projects(self):
        def made(*calls, grammar=ELSE, kind="lalr"):
            project = Project(grammar, kind=kind)
            for word, value in calls:
                getattr(project, word)(value)
            return project

        base = made(("allow", DANGLING), ("keep", ("x",)))
        self.assertTrue(base == made(("allow", Filter(DANGLING.bars)), ("keep", ("x",))))
        same = made(("use", "lr1"), ("allow", DANGLING), ("use", "lalr"), ("want", NEAR), ("drop", NEAR), ("keep", ("if", "x")), ("keep", ("x",)),
                    ("release", ("if", "x")))
        self.assertEqual((base == same, base != same, base.log == same.log), (True, False, False))
        for other in (made(("allow", DANGLING)), made(("allow", DANGLING), ("keep", ("if", "x"))), made(("allow", DANGLING), ("keep", ("x",)), ("want", NEAR)),
                      made(("allow", DANGLING), ("keep", ("x",)), kind="lr1"), made(("allow", DANGLING), ("keep", ("x",)), grammar=Grammar(ELSE.productions[::-1])),
                      made(("want", ACT), ("keep", ("x",))), None, ELSE, 3, "project", base.parser, base.kept):
            self.assertEqual((base == other, base != other), (False, True))

    def test_iteration_and_length(self):
        project = Project(SUMS)
        project.allow(USUAL)
        texts = [("n", "+", "n"), ("n",), ("-", "n"), ("n", "*", "n"), ("-", "-", "n")]
        for text in texts:
            project.keep(text)
        self.assertEqual(list(project), [("n",), ("-", "n"), ("-", "-", "n"), ("n", "*", "n"), ("n", "+", "n")])
        self.assertEqual(list(project.kept), sorted(texts))
        self.assertEqual((len(project), bool(project), str(project)), (4, True, "project of 4 productions, 0 trees, 5 texts"))
        for text in project:
            project.release(text)
        self.assertEqual(list(project), [])

    def test_what_is_returned_is_not_shared(self):
        project = Project(ELSE)
        project.allow(DANGLING)
        project.keep(("x",))
        before = told(project)
        project.kept.clear()
        project.resolution.clear()
        project.kept[("if",)] = None
        self.assertEqual(told(project), before)
        for word in ("grammar", "kind", "wishes", "table", "resolution", "parser", "kept", "log"):
            with self.assertRaises(AttributeError):
                setattr(project, word, None)


class TestLevels(unittest.TestCase):
    def test_levels_that_fit(self):
        project = Project(SUMS)
        project.allow(USUAL)
        levels = project.levels()
        self.assertTrue(is_contained(project.resolution, levels(project.table)))
        self.assertIs(is_levels_paper(project.table, project.resolution, ("levels", project.levels(free=("neg",))), free=("neg",)), True)
        project = Project(PAIRS)
        project.want(("one", ("a", ("ca", ("c",)), "a")))
        project.want(("three", ("a", ("cb", ("c",)), "b")))
        self.assertEqual([project.levels(), project.levels(free=("ca", "cb"))], [None, None])
        for wrong in ODD + [("cb", "ca"), ("odd",), ["ca"], "ca", None]:
            if wrong != ():
                with self.assertRaises(InvalidOperation):
                    project.levels(free=wrong)
        self.assertEqual(Project(NEST).levels(), Levels())


class TestErrors(unittest.TestCase):
    def test_projects(self):
        for wrong in [value for value in ODD if not isinstance(value, Grammar)] + [Table(ELSE), Project(ELSE)]:
            with self.assertRaises(InvalidGrammar):
                Project(wrong, kind=None)
        for wrong in ODD + ["LALR", ("lalr",), "lr", ""]:
            with self.assertRaises(InvalidOperation):
                Project(ELSE, kind=wrong)

    def test_steps(self):
        project = Project(ELSE)
        project.want(ACT)
        before = told(project)
        objects = [Table(ELSE), Levels(), Filter(), Wishes(), Parser(Table(ELSE), {}), project]
        for wrong in [value for value in ODD if value != ACT] + objects + [comb_of(3), ["act", ["x"]], ("act", ("y",)), ("act", ("x", "x")), ("cond", ("if", "x"))]:
            with self.assertRaises(InvalidTree):
                project.want(wrong)
            with self.assertRaises(InvalidOperation):
                project.drop(wrong)
        for wrong in [value for value in ODD if value is not None] + [each for each in objects if not isinstance(each, Filter)] + [USUAL, DANGLING.bars]:
            with self.assertRaises(InvalidFilter):
                project.allow(wrong)
        for wrong in ODD + objects + [("new", "S", ["x"]), ("new", "s", ("x",)), ["new", "S", ("x",)], "new: S -> x", ("shift", "S", ("y",))]:
            with self.assertRaises(InvalidOperation):
                project.add(wrong)
            with self.assertRaises(InvalidOperation):
                project.use(wrong)
        for wrong in [value for value in ODD if value != ()] + objects + [("y",), ["x"], "x", ("$",), ("S",)]:
            with self.assertRaises(InvalidText):
                project.keep(wrong)
            with self.assertRaises(InvalidOperation):
                project.release(wrong)
        with self.assertRaises(InvalidOperation):
            project.keep(())
        for wrong in (("new", "T", ("x",)), ("act", "S", ("y",)), ("new", "S", ("x",)), ("new", "S", ("S",)), ("new", "S", ())):
            try:
                with project.trial():
                    project.add(wrong)
                    self.assertEqual(wrong, ("new", "S", ()))
            except InvalidGrammar:
                self.assertNotEqual(wrong, ("new", "S", ()))
        self.assertEqual(told(project), before)


if __name__ == "__main__":
    unittest.main()
