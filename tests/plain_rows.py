"""Rows of trees, and what labels trees can have by rows, told plainly: node by node."""

import plain_labels
import plain_trees


def tree_rows(table, tree):
    """The set of the rows of a tree."""
    found = set()
    for path, part in plain_trees.nodes(tree):
        if not isinstance(part, str):
            parts = tuple(each if isinstance(each, str) else plain_labels.label(table, tree, path + (at,))
                          for at, each in enumerate(part[1]))
            found.add((plain_labels.label(table, tree, path), part[0], parts))
    return found


def labels_by(rows, tree):
    """The set of the labels that a tree can have by some rows."""
    inner = [part if isinstance(part, str) else labels_by(rows, part) for part in tree[1]]
    return {label for label, name, parts in rows if name == tree[0] and len(parts) == len(inner) and all(
        part == each if isinstance(each, str) else part in each for part, each in zip(parts, inner))}
