"""The forms of bars and of trees of any grammar, and the edges of nodes."""

from chosentrees.base.grammars import MAX_BODY
from chosentrees.base.integers import is_index
from chosentrees.base.symbols import is_name, is_terminal
from chosentrees.base.trees import MAX_NODES


def is_form_node(value):
    """Whether the value is a pair of a name and a tuple of at most five values."""
    if not isinstance(value, tuple) or len(value) != 2 or not is_name(value[0]):
        return False
    return isinstance(value[1], tuple) and len(value[1]) <= MAX_BODY


def is_form(value):
    """Whether the value is a form of a tree with at most 200 pairs."""
    if not is_form_node(value):
        return False
    nodes = [value]
    at = 0
    while at < len(nodes):
        inner = [part for part in nodes[at][1] if not is_terminal(part)]
        if not all([is_form_node(part) for part in inner]) or len(nodes) + len(inner) > MAX_NODES:
            return False
        nodes.extend(inner)
        at = at + 1
    return True


def is_bar_of(value, hows):
    """Whether the value is a bar with one of these words, for some grammar."""
    if not isinstance(value, tuple) or len(value) != 4:
        return False
    how, outer, index, inner = value
    return isinstance(how, str) and how in hows and is_name(outer) and is_index(index, MAX_BODY) and is_name(inner)


def edge_rows(node, path, how):
    """The list of (path, node) on an edge of a node at a path, with this node itself first."""
    found = [(path, node)]
    while how != "child":
        parts = node[1]
        index = 0 if how == "left" else len(parts) - 1
        if not parts or isinstance(parts[index], str):
            return found
        node = parts[index]
        path = (*path, index)
        found.append((path, node))
    return found


def breaks(node, bar):
    """Whether a node with the outer production of a bar breaks it."""
    how, _, index, inner = bar
    return inner in [each[0] for path, each in edge_rows(node[1][index], (), how)]
