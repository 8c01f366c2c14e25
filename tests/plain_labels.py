"""Labels and demands, told plainly: for each path alone, by the words of the document."""

import plain_trees


def symbols_left(grammar, tree, path):
    """The symbols to the left of a path, from the outermost node on."""
    found = []
    for index in path:
        found += grammar[tree[0]][2][:index]
        tree = tree[1][index]
    return tuple(found)


def terminals_ahead(tree, path):
    """The number of terminals ahead of a path."""
    return sum(isinstance(part, str) and where < path[:len(where)] for where, part in plain_trees.nodes(tree))


def label(table, tree, path):
    """The label at a path."""
    grammar = table.grammar
    part = dict(plain_trees.nodes(tree))[path]
    whole, own = plain_trees.text(tree), plain_trees.text(part)
    at = terminals_ahead(tree, path)
    symbol = part if isinstance(part, str) else grammar[part[0]][1]
    behind = whole[at + len(own):]
    return (table.walk(symbols_left(grammar, tree, path)), symbol, own[0] if own else "", behind[0] if behind else "$")


def demand(table, tree, path):
    """The demand at a path."""
    part = dict(plain_trees.nodes(tree))[path]
    state, symbol, first, after = label(table, tree, path)
    if isinstance(part, str):
        return (state, part), "shift"
    walk = symbols_left(table.grammar, tree, path) + table.grammar[part[0]][2]
    return (table.walk(walk), after), part[0]


def demands(table, tree):
    """All demands of a tree."""
    found = {demand(table, tree, path) for path, part in plain_trees.nodes(tree)}
    found.add(((table.walk((table.grammar.start,)), "$"), "accept"))
    return tuple(sorted(found))


def is_broken(node, bar):
    """Whether a node breaks a bar, by going down the edge."""
    how, outer, index, inner = bar
    if node[0] != outer:
        return False
    part = node[1][index]
    while not isinstance(part, str):
        if part[0] == inner:
            return True
        if how == "child" or not part[1]:
            return False
        part = part[1][0 if how == "left" else -1]
    return False


def broken(bars, tree):
    """The ascending tuple of the pairs of a path and a bar that is broken there."""
    return tuple(sorted((path, bar) for path, part in plain_trees.nodes(tree) if not isinstance(part, str)
                        for bar in bars if is_broken(part, bar)))
