"""The trees of a text by their numbers: how many there are, and which one comes at a place.

A chart numbers the trees instead of making them, as there can be very many, and works with lists of
tasks instead of recursion, as they can be deep.
"""

from chosentrees.base.bars import FREE, BarTable, is_barred
from chosentrees.base.symbols import is_nonterminal


def members(mask):
    """The list of the indices of the bits of a number, ascending."""
    return [index for index in range(mask.bit_length()) if (mask >> index) & 1]


def row_ends(row, text, begins, ends):
    """The mask of the indices at which texts of a row of symbols end that begin at one of a mask of indices."""
    mask = begins
    for symbol in row:
        reached = 0
        for begin in members(mask):
            if is_nonterminal(symbol):
                reached = reached | ends[(symbol, begin)]
            elif begin < len(text) and text[begin] == symbol:
                reached = reached | (1 << (begin + 1))
        mask = reached
    return mask


def tree_ends(grammar, text):
    """A dict from nonterminals with an index to the mask of the indices at which their texts end that begin there."""
    ends = {(symbol, begin): 0 for symbol in grammar.nonterminals for begin in range(len(text) + 1)}
    for begin in reversed(range(len(text) + 1)):
        growing = True
        while growing:
            growing = False
            for name, head, body in grammar.productions:
                wider = ends[(head, begin)] | row_ends(body, text, 1 << begin, ends)
                growing = growing or wider != ends[(head, begin)]
                ends[(head, begin)] = wider
    return ends


def folded(entries):
    """The tree of a list of its nodes and terminals, each node ahead of its parts.

    A terminal is given by itself, a node by the pair of its name and the number of its parts.
    """
    made = []
    for entry in entries[::-1]:
        if isinstance(entry, str):
            made.append(entry)
        else:
            name, many = entry
            parts = [made.pop() for _ in range(many)]
            made.append((name, tuple(parts)))
    return made[0]


class Chart:
    """The trees of the start with a text that bars allow, by numbers from 0 on. It never changes.

    A span is a triple (place, begin, end): the trees at a place with the text from begin to end. A place is
    the number of a nonterminal with a context. A row is a tuple (place, production, dot, begin, end): what
    stands behind the dot in a node with this production. Productions are told by their indices.
    """

    def __init__(self, grammar, text, bars=()):
        """Count all trees of all spans that the whole text needs."""
        self._productions = grammar.productions
        self._text = text
        self._bars = BarTable(bars)
        self._ends = tree_ends(grammar, text)
        self._row_ends = {}
        self._places = [(grammar.start, FREE)]
        self._numbers = {self._places[0]: 0}
        self._inner = {}
        self._lets = {}
        self._counts = {}
        self._count_all()

    def tree_count(self):
        """The number of the trees."""
        return self._counts.get((0, 0, len(self._text)), 0)

    def tree(self, rank):
        """The tree with this number."""
        entries = []
        tasks = [(0, 0, len(self._text), rank)]
        while tasks:
            task = tasks.pop()
            if isinstance(task, str):
                entries.append(task)
            else:
                index, parts = self._chosen(task)
                entries.append((self._productions[index][0], len(parts)))
                tasks.extend(parts[::-1])
        return folded(entries)

    def _count_all(self):
        """Count the trees of the whole text, and ahead of them those of all spans and rows inside."""
        whole = (0, 0, len(self._text))
        if not (self._ends[(self._places[0][0], 0)] >> len(self._text)) & 1:
            return
        tasks = [(whole, False)]
        begun = {}
        while tasks:
            node, is_ready = tasks.pop()
            if is_ready:
                self._counts[node] = sum([self._product(choice) for choice in self._choices(node)])
            elif node not in begun:
                begun[node] = True
                tasks.append((node, True))
                tasks.extend([(inner, False) for choice in self._choices(node) for inner in choice
                              if inner not in begun])

    def _product(self, choice):
        """The number of the ways to take a tree, or parts, for each span and row of a choice."""
        many = 1
        for node in choice:
            many = many * self._counts[node]
        return many

    def _choices(self, node):
        """The list of the choices at a span or row: each is a tuple of the spans and rows that it consists of."""
        if len(node) == 3:
            place, begin, end = node
            return [((place, index, 0, begin, end),) for index in self._let(place)
                    if (self._ends_behind(index, 0, begin) >> end) & 1]
        place, index, dot, begin, end = node
        body = self._productions[index][2]
        if dot == len(body):
            return [()]
        if not is_nonterminal(body[dot]):
            return [((place, index, dot + 1, begin + 1, end),)]
        inner = self._inside(place, index, dot)
        return [((inner, begin, middle), (place, index, dot + 1, middle, end))
                for middle in members(self._ends[(body[dot], begin)])
                if (self._ends_behind(index, dot + 1, middle) >> end) & 1]

    def _ends_behind(self, index, dot, begin):
        """The mask of the indices at which texts end of what stands behind a dot, from an index on."""
        key = (index, dot, begin)
        if key not in self._row_ends:
            row = self._productions[index][2][dot:]
            self._row_ends[key] = row_ends(row, self._text, 1 << begin, self._ends)
        return self._row_ends[key]

    def _let(self, place):
        """The list of the indices of the productions that are not barred at a place, in the given order."""
        if place not in self._lets:
            symbol, context = self._places[place]
            self._lets[place] = [index for index, (name, head, body) in enumerate(self._productions)
                                 if head == symbol and not is_barred(context, name)]
        return self._lets[place]

    def _inside(self, place, index, dot):
        """The place of the part behind a dot in a node with this production at a place."""
        key = (place, index, dot)
        if key not in self._inner:
            name, _, body = self._productions[index]
            told = (body[dot], self._bars.inside(name, len(body), dot, self._places[place][1]))
            if told not in self._numbers:
                self._numbers[told] = len(self._places)
                self._places.append(told)
            self._inner[key] = self._numbers[told]
        return self._inner[key]

    def _chosen(self, task):
        """The production of the tree of a span with a number, and its parts: terminals, and spans with numbers."""
        place, begin, end, rank = task
        for choice in self._choices((place, begin, end)):
            row = choice[0]
            if rank < self._counts[row]:
                spans, rank = self._split(row, rank)
                return row[1], self._ranked(spans, rank)
            rank = rank - self._counts[row]
        return None

    def _split(self, row, rank):
        """The parts of the tree of a row with a number, and its number among those with parts of these lengths."""
        parts = []
        ahead = 1
        while True:
            place, index, dot, begin, end = row
            body = self._productions[index][2]
            if dot == len(body):
                return parts, rank
            if not is_nonterminal(body[dot]):
                parts.append(body[dot])
                row = (place, index, dot + 1, begin + 1, end)
            else:
                span, row, rank = self._part(row, ahead, rank)
                parts.append(span)
                ahead = ahead * self._counts[span]

    def _part(self, row, ahead, rank):
        """The span of the next part of a row, the row behind it, and the number among those with this span.

        `ahead` is the number of the ways to take the parts that are already told.
        """
        for span, behind in self._choices(row):
            many = ahead * self._counts[span] * self._counts[behind]
            if rank < many:
                return span, behind, rank
            rank = rank - many
        return None

    def _ranked(self, parts, rank):
        """The list of the parts with a number for each span, by the number of them all; the first part counts most."""
        found = []
        for part in parts[::-1]:
            if isinstance(part, str):
                found.append(part)
            else:
                rank, own = divmod(rank, self._counts[part])
                found.append((*part, own))
        return found[::-1]
