"""Filters, which forbid parts of trees, and wishes."""

from chosentrees.base.charts import Chart
from chosentrees.base.forests import forest_trees
from chosentrees.base.symbols import is_nonterminal
from chosentrees.base.trees import check_grammar, check_text, check_tree, is_whole_tree, part_below, placed
from chosentrees.errors import InvalidFilter, InvalidOperation, InvalidTree, InvalidWishes
from chosentrees.wish.forms import breaks, edge_rows, is_bar_of, is_form

HOWS = ("child", "left", "right")
MAX_BARS = 60
MAX_TREES = 20


def is_bar(value):
    """Whether the value is a bar of some filter."""
    return is_bar_of(value, HOWS)


def bar_fits(grammar, bar):
    """Whether a bar is one for this grammar."""
    how, outer, index, inner = bar
    if outer not in grammar or inner not in grammar:
        return False
    body = grammar[outer][2]
    return index < len(body) and is_nonterminal(body[index])


def broken_bars(bars, tree):
    """The ascending list of the pairs of a path and a bar that is broken there, for a tree that is not checked."""
    return [(path, bar) for path, part in placed(tree) if not isinstance(part, str)
            for bar in bars if bar[1] == part[0] and breaks(part, bar)]


class Filter:
    """A set of bars. It never changes."""

    def __init__(self, bars=()):
        """Check the bars, and keep them in ascending order."""
        if not isinstance(bars, tuple) or len(bars) > MAX_BARS or not all([is_bar(bar) for bar in bars]):
            raise InvalidFilter("a filter has a tuple of at most 60 bars")
        if len(set(bars)) < len(bars):
            raise InvalidFilter("the bars are different")
        self._bars = tuple(sorted(bars))

    @classmethod
    def children(cls, *triples):
        """The filter that forbids parts alone, by triples of an outer production, an index and an inner one."""
        if not all([isinstance(triple, tuple) for triple in triples]):
            raise InvalidFilter("a bar for children is told by a triple")
        return cls(tuple([("child", *triple) for triple in triples]))

    @property
    def bars(self):
        """The bars, ascending."""
        return self._bars

    def is_part_of(self, value):
        """Whether the value is a filter that has all bars of this one."""
        return isinstance(value, Filter) and all([bar in value.bars for bar in self._bars])

    def fits(self, grammar):
        """Whether each bar is one for this grammar."""
        check_grammar(grammar)
        return all([bar_fits(grammar, bar) for bar in self._bars])

    def _check_fits(self, grammar):
        """Raise an error if the filter does not fit the grammar."""
        if not self.fits(grammar):
            raise InvalidFilter("the filter does not fit the grammar")

    def broken(self, grammar, tree):
        """The ascending tuple of the pairs of the path of an outer node and a bar that is broken there."""
        check_tree(grammar, tree)
        self._check_fits(grammar)
        return tuple(broken_bars(self._bars, tree))

    def allows(self, grammar, tree):
        """Whether no bar is broken in the tree."""
        return self.broken(grammar, tree) == ()

    def allowed(self, grammar, text):
        """The trees of the grammar with this text in which no bar is broken, in the order of all trees."""
        check_grammar(grammar)
        check_text(grammar, text)
        self._check_fits(grammar)
        chart = Chart(grammar, text, self._bars)
        yield from forest_trees(chart)

    def __contains__(self, x):
        """Whether the value is a bar of the filter."""
        return is_bar(x) and x in self._bars

    def __iter__(self):
        """The bars, ascending."""
        return iter(self._bars)

    def __len__(self):
        """The number of bars."""
        return len(self._bars)

    def __bool__(self):
        """Whether there is a bar."""
        return bool(self._bars)

    def __eq__(self, other):
        """Whether the other one is a filter with the same bars."""
        return isinstance(other, Filter) and self._bars == other._bars

    def __str__(self):
        """How many bars there are."""
        return f"filter of {len(self._bars)} bars"

    def __or__(self, other):
        """The filter with the bars of either."""
        if not isinstance(other, Filter):
            raise InvalidOperation("only a filter is joined")
        return Filter(self._bars + tuple([bar for bar in other.bars if bar not in self._bars]))

    def __and__(self, other):
        """The filter with the bars of both."""
        if not isinstance(other, Filter):
            raise InvalidOperation("only a filter has bars in common")
        return Filter(tuple([bar for bar in self._bars if bar in other.bars]))

    def __sub__(self, other):
        """The filter with the bars of this one alone."""
        if not isinstance(other, Filter):
            raise InvalidOperation("only the bars of a filter are taken away")
        return Filter(tuple([bar for bar in self._bars if bar not in other.bars]))


def edge(grammar, tree, path, how):
    """The ascending tuple of the paths of the nodes on an edge of the node at a path, this node itself first."""
    check_tree(grammar, tree)
    node = part_below(tree, path)
    if node is None or isinstance(node, str):
        raise InvalidOperation("a value is no path of a node")
    if not isinstance(how, str) or how not in HOWS:
        raise InvalidOperation("there is no such edge")
    return tuple([each[0] for each in edge_rows(node, path, how)])


class Wishes:
    """A filter, or none, and trees that are told. They never change."""

    def __init__(self, bars=None, trees=()):
        """Check the filter and the forms of the trees."""
        if bars is not None and not isinstance(bars, Filter):
            raise InvalidFilter("wishes have a filter or None")
        if not isinstance(trees, tuple) or len(trees) > MAX_TREES or not all([is_form(tree) for tree in trees]):
            raise InvalidTree("wishes have a tuple of at most 20 forms of trees")
        self._bars = bars
        self._trees = trees

    @property
    def bars(self):
        """The filter, or None."""
        return self._bars

    @property
    def trees(self):
        """The trees that are told."""
        return self._trees

    def fit(self, grammar):
        """Whether the filter fits, if there is one, and all told trees are trees of the grammar."""
        check_grammar(grammar)
        if self._bars is not None and not self._bars.fits(grammar):
            return False
        return all([is_whole_tree(grammar, tree) for tree in self._trees])

    def wants(self, grammar, tree):
        """Whether the tree is allowed by the filter, or told."""
        check_grammar(grammar)
        if not is_whole_tree(grammar, tree):
            raise InvalidTree("a value is no tree of the start of the grammar")
        if not self.fit(grammar):
            raise InvalidWishes("the wishes do not fit the grammar")
        if self._bars is not None and not broken_bars(self._bars.bars, tree):
            return True
        return tree in self._trees

    def __eq__(self, other):
        """Whether the other ones are wishes with an equal filter and equal trees."""
        return isinstance(other, Wishes) and self._bars == other._bars and self._trees == other._trees

    def __len__(self):
        """The number of told trees."""
        return len(self._trees)

    def __str__(self):
        """How many bars and told trees there are."""
        if self._bars is None:
            return f"wishes with {len(self._trees)} trees"
        return f"wishes with {len(self._bars)} bars and {len(self._trees)} trees"

    def __add__(self, other):
        """The wishes with one more told tree behind the others."""
        return Wishes(self._bars, self._trees + (other,))
