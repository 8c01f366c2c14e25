"""The trees of a text that can have certain labels by rows, as a forest.

Labels and the rows of a production are numbered, and sets of them kept in masks. What labels a tree can have does
not depend on what is around it, so that trees are grouped by the sets of their labels: each tree is in one group.
"""

from chosentrees.base.spans import Ends
from chosentrees.base.symbols import is_nonterminal


class RowTable:
    """The rows of a grammar, by productions. It never changes but to remember what it has found."""

    def __init__(self, grammar, rows):
        """Number the labels, and the rows of each production."""
        indices = {name: index for index, name in enumerate(grammar.names)}
        self._labels = {}
        self._row_heads = [[] for name in grammar.names]
        self._row_parts = [[] for name in grammar.names]
        self._with = {}
        self._found = {}
        for label, name, parts in rows:
            self._row_heads[indices[name]].append(self._mask(label))
            self._row_parts[indices[name]].append(parts)

    def _mask(self, label):
        """The mask of a label alone."""
        return 1 << self._labels.setdefault(label, len(self._labels))

    def mask_of(self, labels):
        """The mask of those of some labels that are heads or parts of rows."""
        mask = 0
        for label in labels:
            if label in self._labels:
                mask = mask | (1 << self._labels[label])
        return mask

    def whole_mask(self, index):
        """The mask of all rows of a production."""
        return (1 << len(self._row_heads[index])) - 1

    def heads_of(self, index, mask):
        """The mask of the labels of some rows of a production."""
        key = (index, mask)
        if key not in self._found:
            found = 0
            for number, head in enumerate(self._row_heads[index]):
                if (mask >> number) & 1:
                    found = found | head
            self._found[key] = found
        return self._found[key]

    def rows_with(self, index, dot, labels):
        """The mask of the rows of a production of which the part behind a dot is one of the labels of a mask."""
        key = (index, dot, labels)
        if key not in self._with:
            found = 0
            for number, parts in enumerate(self._row_parts[index]):
                told = self._labels.get(parts[dot])
                if told is not None and (labels >> told) & 1:
                    found = found | (1 << number)
            self._with[key] = found
        return self._with[key]


class LabelForest:
    """The forest of the trees of the start with a text that can have one of some labels. It never changes.

    A span is a triple (symbol, begin, end); its groups are the masks of the labels that its trees can have. A row
    is a tuple (production, dot, begin, end); its groups are the masks of the rows of the production that fit what
    stands behind the dot. Tasks have the group that is asked for behind the rest.
    """

    def __init__(self, grammar, rows, starts, text):
        """Find the groups of all spans and rows inside of the whole text."""
        self._productions = grammar.productions
        self._table = RowTable(grammar, rows)
        self._starts = self._table.mask_of(starts)
        self._ends = Ends(grammar, text)
        self._whole = (grammar.start, 0, len(text))
        self._groups = {}
        if (self._ends.of(grammar.start, 0) >> len(text)) & 1:
            self._group_all()
        else:
            self._groups[self._whole] = []

    def roots(self):
        """The groups of the trees of the whole text with one of the labels that are asked for."""
        return [(*self._whole, labels) for labels in self._groups[self._whole] if labels & self._starts]

    def choices(self, task):
        """The list of the ways to do a task."""
        if len(task) == 4:
            return self._span_choices(task)
        index, dot, begin, end, mask, parts = task
        name, _, body = self._productions[index]
        if dot == len(body):
            return [((name, len(body)), *parts)]
        if not is_nonterminal(body[dot]):
            return [((index, dot + 1, begin + 1, end, mask, (*parts, body[dot])),)]
        found = []
        for span, row in self._splits((index, dot, begin, end)):
            for labels in self._groups[span]:
                fitting = self._table.rows_with(index, dot, labels)
                found.extend([((*row, behind, (*parts, (*span, labels))),) for behind in self._groups[row]
                              if behind & fitting == mask])
        return found

    def _span_choices(self, task):
        """The list of the ways to do the task of a span."""
        labels = task[3]
        return [((*split[0], mask, ()),) for split in self._splits(task[:3]) for mask in self._groups[split[0]]
                if self._table.heads_of(split[0][0], mask) == labels]

    def _group_all(self):
        """Find the groups of the whole text, and ahead of them those of all spans and rows inside."""
        tasks = [(self._whole, False)]
        begun = {}
        while tasks:
            node, is_ready = tasks.pop()
            if is_ready:
                self._groups[node] = self._found_groups(node)
            elif node not in begun:
                begun[node] = True
                tasks.append((node, True))
                tasks.extend([(inner, False) for split in self._splits(node) for inner in split if inner not in begun])

    def _splits(self, node):
        """The list of the ways in which a span or row consists of others."""
        if len(node) == 3:
            symbol, begin, end = node
            return [((index, 0, begin, end),) for index, (name, head, body) in enumerate(self._productions)
                    if head == symbol and (self._ends.behind(index, 0, begin) >> end) & 1]
        index, dot, begin, end = node
        body = self._productions[index][2]
        if dot == len(body):
            return [()]
        if not is_nonterminal(body[dot]):
            return [((index, dot + 1, begin + 1, end),)]
        return [((body[dot], begin, middle), (index, dot + 1, middle, end))
                for middle in self._ends.middles(index, dot, begin, end)]

    def _found_groups(self, node):
        """The ascending list of the groups of a span or row, by those of what is inside."""
        found = {}
        for split in self._splits(node):
            for mask in self._split_groups(node, split):
                if mask:
                    found[mask] = True
        return sorted(found)

    def _split_groups(self, node, split):
        """The list of the groups of a span or row in one of its ways; 0 stands for none."""
        if len(node) == 3:
            return [self._table.heads_of(split[0][0], mask) for mask in self._groups[split[0]]]
        if not split:
            return [self._table.whole_mask(node[0])]
        if len(split) == 1:
            return self._groups[split[0]]
        span, row = split
        told = [self._table.rows_with(node[0], node[1], labels) for labels in self._groups[span]]
        return [mask & behind for mask in told for behind in self._groups[row]]
