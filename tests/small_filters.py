"""Filters for small grammars, of random bars."""

from chosentrees.base.grammars import Grammar
from chosentrees.wish.filters import Filter

# Parts that are first, last, both or neither, and productions without parts.
EDGES = Grammar.from_lines("pair: S -> S T", "one: S -> T", "wrap: T -> a S b", "leaf: T -> c", "open: T -> d M S",
                           "none: M ->", "some: M -> e")


def all_bars(grammar):
    """All bars that fit the grammar."""
    places = [(name, index) for name, head, body in grammar.productions for index, symbol in enumerate(body)
              if symbol[0].isupper()]
    return [(how, name, index, inner) for how in ("child", "left", "right") for name, index in places
            for inner in grammar.names]


def some_filters(grammar, chooser, many):
    """The filter without bars, and so many others."""
    yield Filter()
    bars = all_bars(grammar)
    for _ in range(many if bars else 0):
        yield Filter(tuple(chooser.sample(bars, min(len(bars), chooser.choice((1, 2, 3, 5, 8))))))
