"""Trees, their texts and paths, and all trees of a text."""

from chosentrees.base.charts import Chart
from chosentrees.base.counts import TreeCounts
from chosentrees.base.forests import forest_trees
from chosentrees.base.grammars import Grammar
from chosentrees.base.integers import is_index
from chosentrees.base.symbols import is_nonterminal, is_terminals
from chosentrees.errors import InvalidGrammar, InvalidOperation, InvalidText, InvalidTree

MAX_NODES = 200


def check_grammar(value):
    """Raise an error if the value is no grammar."""
    if not isinstance(value, Grammar):
        raise InvalidGrammar("a value is no grammar")


def is_text(grammar, value):
    """Whether the value is a tuple of at most 60 terminals of the grammar."""
    return is_terminals(value) and all([terminal in grammar.terminals for terminal in value])


def check_text(grammar, value):
    """Raise an error if the value is no text of the grammar."""
    if not is_text(grammar, value):
        raise InvalidText("a text is a tuple of at most 60 terminals of the grammar")


def node_head(rows, value):
    """The head of the production of a value in the form of a node, or None; its parts do not matter.

    `rows` is a dict from the names of productions to their heads and bodies.
    """
    if not isinstance(value, tuple) or len(value) != 2 or not isinstance(value[1], tuple):
        return None
    if not isinstance(value[0], str) or value[0] not in rows:
        return None
    return rows[value[0]][0]


def inner_nodes(rows, node):
    """The list of the parts of a value in the form of a node that are nodes, or None if a part does not fit."""
    name, parts = node
    body = rows[name][1]
    if len(parts) != len(body):
        return None
    found = []
    for symbol, part in zip(body, parts):
        if is_nonterminal(symbol):
            if node_head(rows, part) != symbol:
                return None
            found.append(part)
        elif not isinstance(part, str) or part != symbol:
            return None
    return found


def tree_head(grammar, value):
    """The nonterminal of which the value is a tree with at most 200 nodes, or None."""
    rows = {name: (head, body) for name, head, body in grammar.productions}
    whole = node_head(rows, value)
    if whole is None:
        return None
    nodes = [value]
    at = 0
    while at < len(nodes):
        found = inner_nodes(rows, nodes[at])
        if found is None or len(nodes) + len(found) > MAX_NODES:
            return None
        nodes.extend(found)
        at = at + 1
    return whole


def is_tree(grammar, value):
    """Whether the value is a tree of some nonterminal of the grammar with at most 200 nodes."""
    check_grammar(grammar)
    return tree_head(grammar, value) is not None


def check_tree(grammar, value):
    """Raise an error if the first value is no grammar, or the second one no tree of it."""
    if not is_tree(grammar, value):
        raise InvalidTree("a value is no tree of the grammar")


def is_whole_tree(grammar, value):
    """Whether the value is a tree of the start with at most 200 nodes."""
    return tree_head(grammar, value) == grammar.start


def placed(tree):
    """The list of the pairs of a path and what is there, for all nodes and terminals, by ascending paths."""
    found = []
    tasks = [((), tree)]
    while tasks:
        path, part = tasks.pop()
        found.append((path, part))
        if not isinstance(part, str):
            inner = [((*path, index), each) for index, each in enumerate(part[1])]
            tasks.extend(inner[::-1])
    return found


def text_of(grammar, tree):
    """The text of a tree, of any length."""
    check_tree(grammar, tree)
    return tuple([part for path, part in placed(tree) if isinstance(part, str)])


def size_of(grammar, tree):
    """The number of nodes, and the greatest number of nodes on a path from the whole tree downwards."""
    check_tree(grammar, tree)
    lengths = [len(path) for path, part in placed(tree) if not isinstance(part, str)]
    return len(lengths), max(lengths) + 1


def paths(grammar, tree):
    """The paths of all nodes and terminals, ascending."""
    check_tree(grammar, tree)
    for path, part in placed(tree):
        yield path


def part_below(tree, path):
    """What is at a path of a tree, or None if the value is no path of it."""
    if not isinstance(path, tuple):
        return None
    part = tree
    for index in path:
        if isinstance(part, str) or not is_index(index, len(part[1])):
            return None
        part = part[1][index]
    return part


def part_at(grammar, tree, path):
    """What is at a path of a tree."""
    check_tree(grammar, tree)
    part = part_below(tree, path)
    if part is None:
        raise InvalidOperation("a value is no path of the tree")
    return part


def count_trees(grammar, text):
    """The number of the trees of the grammar with this text."""
    check_grammar(grammar)
    check_text(grammar, text)
    return TreeCounts(grammar, text).whole(grammar.start)


def all_trees(grammar, text):
    """The trees of the grammar with this text, one by one, in the order of their productions, lengths and parts."""
    check_grammar(grammar)
    check_text(grammar, text)
    chart = Chart(grammar, text)
    yield from forest_trees(chart)
