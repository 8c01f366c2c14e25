"""All texts of a grammar with few terminals."""

from chosentrees.base.symbols import is_nonterminal, text_order
from chosentrees.errors import TooMany


def least_lengths(grammar):
    """A dict from the nonterminals to the least numbers of terminals of their trees."""
    found = {}
    while True:
        better = {}
        for name, head, body in grammar.productions:
            if all([symbol in found for symbol in body if is_nonterminal(symbol)]):
                many = row_length(body, found)
                better[head] = min(many, better.get(head, many))
        if better == found:
            return found
        found = better


def row_length(row, lengths):
    """The least number of terminals of a row of symbols, by those of the nonterminals."""
    return sum([lengths[symbol] if is_nonterminal(symbol) else 1 for symbol in row])


def outer_lengths(grammar, lengths):
    """A dict from the nonterminals to the least numbers of terminals around a node in a tree of the start."""
    found = {grammar.start: 0}
    while True:
        better = {grammar.start: 0}
        for name, head, body in grammar.productions:
            for index, symbol in enumerate(body):
                if head in found and is_nonterminal(symbol):
                    many = found[head] + row_length(body[:index] + body[index + 1:], lengths)
                    better[symbol] = min(many, better.get(symbol, many))
        if better == found:
            return found
        found = better


class ShortTexts:
    """The texts of all nonterminals that stand in trees of the start with few terminals.

    Each of them stands in another text of the start, if the rest is the same, so that no nonterminal has more of
    them than the start.
    """

    def __init__(self, grammar, most, limit):
        """Find them by their lengths; there is an error if one nonterminal has more than the limit."""
        self._grammar = grammar
        self._limit = limit
        self._lengths = least_lengths(grammar)
        outer = outer_lengths(grammar, self._lengths)
        self._rooms = {symbol: most - outer[symbol] for symbol in grammar.nonterminals}
        self._texts = {symbol: {} for symbol in grammar.nonterminals}
        for many in range(most + 1):
            growing = True
            while growing:
                growing = self._grow(many)

    def _grow(self, many):
        """Add texts of this length that follow from those that are known, and tell whether there are any."""
        added = 0
        for name, head, body in self._grammar.productions:
            if many <= self._rooms[head]:
                texts = self._texts[head]
                for text in self._body_texts(body, many):
                    if text not in texts:
                        texts[text] = True
                        added = added + 1
                self._check(len(texts))
        return added > 0

    def _check(self, many):
        """Raise an error if there are more texts than the limit."""
        if many > self._limit:
            raise TooMany(self._limit)

    def _body_texts(self, body, many):
        """The list of the texts of a body with this length that follow from those that are known."""
        rows = [()]
        for index, symbol in enumerate(body):
            room = many - row_length(body[index + 1:], self._lengths)
            rows = self._longer_rows(rows, list(self._texts[symbol]) if is_nonterminal(symbol) else [(symbol,)], room)
        return [row for row in rows if len(row) == many]

    def _longer_rows(self, rows, texts, room):
        """The list of the rows with one of some texts behind, of lengths for which there is room."""
        found = {}
        for row in rows:
            for text in texts:
                if len(row) + len(text) <= room:
                    found[row + text] = True
            # With the least rest each of them is another text.
            self._check(len(found))
        return list(found)

    def of(self, symbol):
        """The list of the texts of a nonterminal, the least one first."""
        return sorted(self._texts[symbol], key=text_order)


def short_texts(grammar, most, limit):
    """The list of the texts with at most so many terminals that have a tree of the grammar, the least one first.

    It is an error if there are more of them than the limit.
    """
    return ShortTexts(grammar, most, limit).of(grammar.start)
