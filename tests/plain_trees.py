"""Trees, told plainly: by recursion over all ways to cut a text."""

import itertools


def cuts(body, text):
    """All ways to cut a text into one piece for each symbol, by ascending tuples of lengths."""
    if not body:
        return [()] if not text else []
    return [(text[:many],) + rest for many in range(len(text) + 1) for rest in cuts(body[1:], text[many:])]


def trees(grammar, symbol, text, known=None):
    """All trees of a symbol with this text, in the order of the document."""
    if not symbol[0].isupper():
        return [symbol] if text == (symbol,) else []
    known = {} if known is None else known
    if (symbol, text) not in known:
        found = []
        for name, head, body in grammar.productions:
            if head == symbol:
                for pieces in cuts(body, text):
                    if any(cannot_be(grammar, each, piece) for each, piece in zip(body, pieces)):
                        continue
                    choices = [trees(grammar, each, piece, known) for each, piece in zip(body, pieces)]
                    found += [(name, parts) for parts in itertools.product(*choices)]
        known[(symbol, text)] = found
    return known[(symbol, text)]


def cannot_be(grammar, symbol, piece):
    """Whether a piece plainly is no text of a symbol. Without this, recursion would not end."""
    if not symbol[0].isupper():
        return piece != (symbol,)
    return not piece and "" not in grammar.firsts(symbol)


def nodes(tree, path=()):
    """All pairs of a path and a node or terminal, parts behind what is around them."""
    found = [(path, tree)]
    if not isinstance(tree, str):
        for index, part in enumerate(tree[1]):
            found += nodes(part, path + (index,))
    return found


def text(tree):
    """The terminals in order."""
    return tuple(part for path, part in nodes(tree) if isinstance(part, str))


def node_count(tree):
    """The number of nodes."""
    return sum(not isinstance(part, str) for path, part in nodes(tree))


def height(tree):
    """The greatest number of nodes on a way down."""
    return 0 if isinstance(tree, str) else 1 + max([height(part) for part in tree[1]], default=0)
