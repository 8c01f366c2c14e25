"""Projects: a grammar, a kind of tables, wishes, and texts whose trees are kept."""

from chosentrees.base.integers import is_integer
from chosentrees.base.symbols import is_terminals
from chosentrees.base.trees import check_text
from chosentrees.compare.compared import least_outside
from chosentrees.errors import InvalidFilter, InvalidNumber, InvalidOperation, NothingToUndo, Refused, TooMany
from chosentrees.project.courses import Course, Stand, Trial
from chosentrees.run.parsers import Parser
from chosentrees.table.tables import Table, is_kind
from chosentrees.wish.filters import MAX_TREES, Filter, Wishes
from chosentrees.wish.labels import check_whole_tree, lacking, tree_demands
from chosentrees.wish.papers import wishes_paper
from chosentrees.wish.ranking import levels_paper

MAX_KEPT = 20
MAX_STEPS = 200


def next_stand(table, wishes, former):
    """The stand with another table or other wishes and the kept texts of a former one, or an error if it is refused."""
    paper = wishes_paper(table, wishes)
    if paper[0] == "clash":
        raise Refused(paper)
    parser = Parser(table, paper[1])
    for text in former.texts:
        if lacking(parser, tree_demands(table, former.held[text])):
            raise Refused(("lost", text))
    return Stand(parser, wishes, former.held)


class Project:
    """A grammar with wishes and kept texts, and its parser with the least resolution for the wishes."""

    def __init__(self, grammar, *, kind="lalr"):
        """Begin without wishes, with nothing kept."""
        first = Stand(Parser(Table(grammar, kind), {}), Wishes(), {})
        self.course = Course((("", first),), (), None)

    @property
    def grammar(self):
        """The grammar."""
        return self.course.now.maker.grammar

    @property
    def kind(self):
        """The kind of the table."""
        return self.course.now.maker.table.kind

    @property
    def wishes(self):
        """The wishes."""
        return self.course.now.wanted

    @property
    def table(self):
        """The table."""
        return self.course.now.maker.table

    @property
    def resolution(self):
        """The least resolution for the wishes."""
        return self.course.now.maker.resolution

    @property
    def parser(self):
        """The parser with the least resolution for the wishes."""
        return self.course.now.maker

    @property
    def kept(self):
        """The dict from the kept texts to their trees."""
        held = self.course.now.held
        return {text: held[text] for text in sorted(held)}

    @property
    def log(self):
        """The words of the steps in effect."""
        return self.course.words()

    def _check_room(self):
        """Raise an error if no more steps can be in effect."""
        if self.course.count_done() >= MAX_STEPS:
            raise TooMany(MAX_STEPS)

    def _renew(self, word, table, wishes):
        """Do a step that gives another table or other wishes, if it is not refused."""
        self.course = self.course.behind_step(word, next_stand(table, wishes, self.course.now))

    def _wish(self, word, wishes):
        """Do a step that gives other wishes."""
        self._check_room()
        self._renew(word, self.table, wishes)

    def want(self, tree):
        """Tell one more tree, behind the others."""
        check_whole_tree(self.grammar, tree)
        wishes = self.wishes
        if tree in wishes.trees:
            raise InvalidOperation("the tree is told")
        if len(wishes.trees) >= MAX_TREES:
            raise TooMany(MAX_TREES)
        self._wish("want", wishes + tree)

    def drop(self, tree):
        """Take a told tree away."""
        wishes = self.wishes
        if tree not in wishes.trees:
            raise InvalidOperation("the tree is not told")
        self._wish("drop", Wishes(wishes.bars, tuple([each for each in wishes.trees if each != tree])))

    def allow(self, bars):
        """Take another filter, or None."""
        if bars is not None and not (isinstance(bars, Filter) and bars.fits(self.grammar)):
            raise InvalidFilter("a value is neither None nor a filter that fits the grammar")
        self._wish("allow", Wishes(bars, self.wishes.trees))

    def add(self, production):
        """Add a production behind the others; kept texts keep their trees."""
        grammar = self.grammar + production
        self._check_room()
        self._renew("add", Table(grammar, self.kind), self.wishes)

    def __iadd__(self, other):
        """Add a production behind the others."""
        self.add(other)
        return self

    def use(self, kind):
        """Take another kind of tables."""
        if not is_kind(kind):
            raise InvalidOperation("there is no such kind of tables")
        self._check_room()
        self._renew("use", Table(self.grammar, kind), self.wishes)

    def _hold(self, word, held):
        """Do a step that gives other kept texts."""
        self._check_room()
        self.course = self.course.behind_step(word, Stand(self.parser, self.wishes, held))

    def keep(self, text):
        """Keep the tree that the parser builds of a text."""
        check_text(self.grammar, text)
        held = self.course.now.held
        tree = self.parser.tree(text)
        if tree is None or text in held:
            raise InvalidOperation("there is no tree, or the text is kept")
        if len(held) >= MAX_KEPT:
            raise TooMany(MAX_KEPT)
        self._hold("keep", {**held, text: tree})

    def release(self, text):
        """Keep the tree of a text no longer."""
        held = self.course.now.held
        if not is_terminals(text) or text not in held:
            raise InvalidOperation("the text is not kept")
        self._hold("release", {each: held[each] for each in held if each != text})

    def change(self):
        """The least text of which the parser before the last change built a tree that the present one does not."""
        former = self.course.former
        if former is None or len(self.grammar) < len(former.grammar):
            return None
        return least_outside(former, self.parser)

    def levels(self, *, free=()):
        """Levels that fit the resolution, with some productions that may have levels of their own, or None."""
        paper = levels_paper(self.table, self.resolution, free=free)
        return paper[1] if paper[0] == "levels" else None

    def _check_many(self, many, most):
        """Raise an error if a value is no number of steps, or there are not so many."""
        if not is_integer(many) or many < 0:
            raise InvalidNumber(many)
        if many > most:
            raise NothingToUndo(many)

    def undo(self, *, many=1):
        """Take back the last steps in effect, and tell how many steps are in effect then."""
        self._check_many(many, self.course.count_done())
        self.course = self.course.with_undone(many)
        return self.course.count_done()

    def redo(self, *, many=1):
        """Do steps again that were taken back, and tell how many steps are in effect then."""
        self._check_many(many, len(self.course.undone))
        self.course = self.course.with_redone(many)
        return self.course.count_done()

    def trial(self):
        """A block that is given the project itself, and behind which all is as before."""
        return Trial(self)

    def during(self, call):
        """What a function returns that is called with the project in such a block."""
        with self.trial() as same:
            return call(same)

    def twin(self):
        """An independent copy, also of what can be done again and of the last change."""
        made = Project(self.grammar, kind=self.kind)
        made.course = self.course
        return made

    def __contains__(self, x):
        """Whether the value is a kept text, or a told tree."""
        return (is_terminals(x) and x in self.course.now.held) or x in self.course.now.wanted.trees

    def __len__(self):
        """The number of productions."""
        return len(self.course.now.maker.grammar)

    def __iter__(self):
        """The kept texts, the least one first."""
        return iter(self.course.texts)

    def __eq__(self, other):
        """Whether the other one is a project with equal grammar, kind, wishes and kept texts with their trees."""
        if not isinstance(other, Project):
            return False
        if self.grammar != other.grammar or self.kind != other.kind or self.wishes != other.wishes:
            return False
        return self.kept == other.kept

    def __str__(self):
        """How many productions, told trees and kept texts there are."""
        return f"project of {len(self)} productions, {len(self.wishes)} trees, {len(self.course.texts)} texts"
