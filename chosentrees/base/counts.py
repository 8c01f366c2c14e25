"""The numbers of trees of texts.

Trees are counted by rows of symbols: the bodies of productions without some parts that have no terminals. So each
symbol of a row has at least one terminal, and what has two symbols or more is counted by shorter texts.
"""

from chosentrees.base.symbols import is_nonterminal


def empty_counts(grammar):
    """A dict from the nonterminals to the numbers of their trees without terminals."""
    counts = {symbol: 0 for symbol in grammar.nonterminals}
    while True:
        better = {symbol: 0 for symbol in counts}
        for name, head, body in grammar.productions:
            many = 1
            for symbol in body:
                many = many * counts.get(symbol, 0)
            better[head] = better[head] + many
        if better == counts:
            return counts
        counts = better


def shorter_rows(body, empties):
    """The list of (row, many): the body without some parts that have no terminals, and in how many ways."""
    rows = [((), 1)]
    for symbol in body:
        none = empties.get(symbol, 0)
        without = [(row, many * none) for row, many in rows if none]
        rows = [((*row, symbol), many) for row, many in rows] + without
    return [(row, many) for row, many in rows if row]


def ordered(rows):
    """The list of the nonterminals, each behind those that stand alone in one of its rows."""
    order = []
    while len(order) < len(rows):
        for symbol in rows:
            inner = [row[0] for row, many in rows[symbol] if len(row) == 1 and is_nonterminal(row[0])]
            if symbol not in order and all([each in order for each in inner]):
                order.append(symbol)
    return order


class TreeCounts:
    """The numbers of the trees of nonterminals with the parts of a text. They never change.

    The rows, what stands behind their first symbols, and all symbols as rows of their own, are numbered.
    """

    def __init__(self, grammar, text):
        """Count by ascending ends, and for each end by descending beginnings."""
        self._text = text
        self._empties = empty_counts(grammar)
        rows = {symbol: [] for symbol in grammar.nonterminals}
        for name, head, body in grammar.productions:
            rows[head].extend(shorter_rows(body, self._empties))
        self._numbers = {}
        for symbol in grammar.terminals + grammar.nonterminals:
            self._number((symbol,))
        # All rows of one symbol have been numbered, and no row is numbered twice.
        self._tails = []
        told = {symbol: [(self._number(row), many) for row, many in rows[symbol]] for symbol in rows}
        self._rows = [(self._number((symbol,)), told[symbol]) for symbol in ordered(rows)]
        # For each symbol and beginning the list of the ends of its texts and how many trees they have.
        self._ahead = [[[] for _ in text] for row in self._numbers if len(row) == 1]
        for begin, terminal in enumerate(text):
            self._ahead[self._number((terminal,))][begin].append((begin + 1, 1))
        for end in range(1, len(text) + 1):
            self._end_at(end)

    def _number(self, row):
        """The number of a row; what stands behind its first symbol has a number, too."""
        if row not in self._numbers:
            rest = self._number(row[1:]) if len(row) > 1 else None
            self._numbers[row] = len(self._numbers)
            if rest is not None:
                self._tails.append((self._numbers[row], self._numbers[row[:1]], rest))
        return self._numbers[row]

    def _end_at(self, end):
        """Count all texts that end at an index."""
        # For each row the numbers of the ways to take trees for its symbols, by the beginnings.
        behind = [[0] * (end + 1) for row in self._numbers]
        behind[self._number((self._text[end - 1],))][end - 1] = 1
        for begin in list(range(end))[::-1]:
            for number, first, rest in self._tails:
                ahead = self._ahead[first][begin]
                if ahead:
                    later = behind[rest]
                    behind[number][begin] = sum([many * later[middle] for middle, many in ahead])
            for number, rows in self._rows:
                many = sum([each * behind[row][begin] for row, each in rows])
                if many:
                    behind[number][begin] = many
                    self._ahead[number][begin].append((end, many))

    def whole(self, symbol):
        """The number of the trees of a nonterminal with the whole text."""
        if not self._text:
            return self._empties[symbol]
        return sum([many for end, many in self._ahead[self._number((symbol,))][0] if end == len(self._text)])
