"""The trees of a text that bars allow, as a forest."""

from chosentrees.base.bars import FREE, BarTable, is_barred
from chosentrees.base.spans import Ends
from chosentrees.base.symbols import is_nonterminal


class Chart:
    """The forest of the trees of the start with a text in which no bar is broken. It never changes.

    A span is a triple (place, begin, end): the trees at a place with the text from begin to end. A place is
    the number of a nonterminal with a context. A row is a tuple (place, production, dot, begin, end): what
    stands behind the dot in a node with this production. Productions are told by their indices. The task of a
    row has also the parts ahead of the dot: first the lengths of all parts are chosen, and then the parts.
    """

    def __init__(self, grammar, text, bars=()):
        """Find out, if there are bars, for which spans and rows there are trees that they allow."""
        self._productions = grammar.productions
        self._ends = Ends(grammar, text)
        self._bars = BarTable(bars)
        self._has_bars = len(bars) > 0
        self._places = [(grammar.start, FREE)]
        self._numbers = {self._places[0]: 0}
        self._inner = {}
        self._lets = {}
        self._allowed = {}
        self._whole = (0, 0, len(text))
        self._has_text = ((self._ends.of(grammar.start, 0) >> len(text)) & 1) == 1
        if self._has_bars and self._has_text:
            self._mark_all()

    def roots(self):
        """The span of the whole text, if it has a tree."""
        return [self._whole] if self._has_text and self._has_trees(self._whole) else []

    def choices(self, task):
        """The list of the ways to do a task."""
        if len(task) == 3:
            return [((*split[0], ()),) for split in self._splits(task) if self._has_trees(split[0])]
        row, parts = task[:5], task[5]
        place, index, dot, begin, end = row
        name, _, body = self._productions[index]
        if dot == len(body):
            return [((name, len(body)), *parts)]
        if not is_nonterminal(body[dot]):
            return [((place, index, dot + 1, begin + 1, end, (*parts, body[dot])),)]
        return [((*behind, (*parts, span)),) for span, behind in self._splits(row)
                if self._has_trees(span) and self._has_trees(behind)]

    def _has_trees(self, node):
        """Whether there is a tree of a span, or of each part of a row, that the bars allow."""
        return self._allowed[node] if self._has_bars else True

    def _are_allowed(self, split):
        """Whether all spans and rows of a way have trees; they have been marked."""
        return all([self._allowed[inner] for inner in split])

    def _mark_all(self):
        """Find out which spans and rows inside of the whole text have trees, those inside of others first."""
        tasks = [(self._whole, False)]
        begun = {}
        while tasks:
            node, is_ready = tasks.pop()
            if is_ready:
                self._allowed[node] = any([self._are_allowed(split) for split in self._splits(node)])
            elif node not in begun:
                begun[node] = True
                tasks.append((node, True))
                tasks.extend([(inner, False) for split in self._splits(node) for inner in split if inner not in begun])

    def _splits(self, node):
        """The list of the ways in which a span or row consists of others, as far as texts without bars tell."""
        if len(node) == 3:
            place, begin, end = node
            return [((place, index, 0, begin, end),) for index in self._let(place)
                    if (self._ends.behind(index, 0, begin) >> end) & 1]
        place, index, dot, begin, end = node
        body = self._productions[index][2]
        if dot == len(body):
            return [()]
        if not is_nonterminal(body[dot]):
            return [((place, index, dot + 1, begin + 1, end),)]
        inner = self._inside(place, index, dot)
        return [((inner, begin, middle), (place, index, dot + 1, middle, end))
                for middle in self._ends.middles(index, dot, begin, end)]

    def _let(self, place):
        """The list of the indices of the productions that are not barred at a place, in the given order."""
        if place not in self._lets:
            symbol, context = self._places[place]
            self._lets[place] = [index for index, (name, head, body) in enumerate(self._productions)
                                 if head == symbol and not is_barred(context, name)]
        return self._lets[place]

    def _inside(self, place, index, dot):
        """The place of the part behind a dot in a node with this production at a place."""
        key = (place, index, dot)
        if key not in self._inner:
            name, _, body = self._productions[index]
            told = (body[dot], self._bars.inside(name, len(body), dot, self._places[place][1]))
            if told not in self._numbers:
                self._numbers[told] = len(self._places)
                self._places.append(told)
            self._inner[key] = self._numbers[told]
        return self._inner[key]
