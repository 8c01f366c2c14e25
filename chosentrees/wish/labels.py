"""Labels and demands of trees."""

from chosentrees.base.symbols import END
from chosentrees.base.trees import is_whole_tree, part_below
from chosentrees.errors import InvalidOperation, InvalidTree
from chosentrees.run.parsers import Parser
from chosentrees.table.levels import check_table
from chosentrees.table.resolutions import with_ascending_keys
from chosentrees.wish.filters import MAX_TREES


def check_parser(value):
    """Raise an error if the value is no parser."""
    if not isinstance(value, Parser):
        raise InvalidOperation("a value is no parser")


def check_whole_tree(grammar, value):
    """Raise an error if the value is no tree of the start with at most 200 nodes."""
    if not is_whole_tree(grammar, value):
        raise InvalidTree("a value is no tree of the start of the grammar")


def checked_trees(table, trees):
    """The tuple of trees, or an error if it is none of at most 20 trees of the start."""
    if not isinstance(trees, tuple) or len(trees) > MAX_TREES:
        raise InvalidTree("there is a tuple of at most 20 trees")
    for tree in trees:
        check_whole_tree(table.grammar, tree)
    return trees


def spans(table, tree):
    """The list of (path, part, trail, begin, end) for all nodes and terminals of a tree, by ascending paths.

    The trail has the state ahead and those behind the parts, one after another. The text of the part goes
    from begin to end in that of the whole tree.
    """
    bodies = {name: body for name, head, body in table.grammar.productions}
    found = []
    ends = {}
    at = 0
    tasks = [((), tree, 0)]
    while tasks:
        path, part, state = tasks.pop()
        if part is None:
            ends[path] = at
        elif isinstance(part, str):
            found.append((path, part, (state,), at))
            at = at + 1
            ends[path] = at
        else:
            trail = table.trail(state, bodies[part[0]])
            found.append((path, part, trail, at))
            # A task without a part tells where the text of the node ends.
            tasks.append((path, None, state))
            inner = [((*path, index), each, trail[index]) for index, each in enumerate(part[1])]
            tasks.extend(inner[::-1])
    return [(path, part, trail, begin, ends[path]) for path, part, trail, begin in found]


def labelled(table, tree):
    """The list of (path, label, demand) for all nodes and terminals of a tree, by ascending paths."""
    heads = {name: head for name, head, body in table.grammar.productions}
    rows = spans(table, tree)
    text = [part for path, part, trail, begin, end in rows if isinstance(part, str)] + [END]
    found = []
    for path, part, trail, begin, end in rows:
        first = text[begin] if begin < end else ""
        if isinstance(part, str):
            found.append((path, (trail[0], part, first, text[end]), ((trail[0], part), "shift")))
        else:
            name = part[0]
            found.append((path, (trail[0], heads[name], first, text[end]), ((trail[-1], text[end]), name)))
    return found


def row_at(table, tree, path):
    """The (path, label, demand) at a path of a tree; errors as for labels."""
    check_table(table)
    check_whole_tree(table.grammar, tree)
    if part_below(tree, path) is None:
        raise InvalidOperation("a value is no path of the tree")
    return [row for row in labelled(table, tree) if row[0] == path][0]


def label(table, tree, path):
    """The label of the node or terminal at a path."""
    return row_at(table, tree, path)[1]


def labels(table, tree):
    """The tuple of all labels, in the ascending order of the paths."""
    check_table(table)
    check_whole_tree(table.grammar, tree)
    return tuple([row[1] for row in labelled(table, tree)])


def accept_demand(table):
    """The demand that each tree of the grammar has beside those of its nodes and terminals."""
    return (table.walk((table.grammar.start,)), END), "accept"


def tree_demands(table, tree):
    """The ascending tuple of the demands of a tree of the grammar that is not checked."""
    rows = [row[2] for row in labelled(table, tree)]
    rows.append(accept_demand(table))
    return tuple(sorted(set(rows)))


def demands(table, tree):
    """The ascending tuple of the demands of the tree, each once."""
    check_table(table)
    check_whole_tree(table.grammar, tree)
    return tree_demands(table, tree)


def demanded(table, tree, path):
    """The demand of the node or terminal at a path."""
    return row_at(table, tree, path)[2]


def lacking(parser, told):
    """The tuple of those demands of a row that the resolution of a parser does not have."""
    resolution = parser.resolution
    return tuple([(cell, action) for cell, action in told if resolution.get(cell) != action])


def missing(parser, tree):
    """The ascending tuple of the demands of the tree that the resolution of the parser does not have."""
    check_parser(parser)
    check_whole_tree(parser.grammar, tree)
    return lacking(parser, tree_demands(parser.table, tree))


def is_built(parser, tree):
    """Whether the parser builds the tree."""
    return missing(parser, tree) == ()


def all_demands(table, trees):
    """The list of the demands of trees that are not checked."""
    return [demand for tree in trees for demand in tree_demands(table, tree)]


def clashing_cells(told):
    """The ascending tuple of the cells that have different actions in a list of demands."""
    actions = {}
    for cell, action in told:
        actions.setdefault(cell, []).append(action)
    return tuple(sorted([cell for cell in actions if len(set(actions[cell])) > 1]))


def resolution_of(told):
    """The resolution that has just these demands, which do not clash."""
    return with_ascending_keys({cell: action for cell, action in told})


def clash(table, trees):
    """The least cell at which two of the trees, or one of them, demand different actions, or None."""
    check_table(table)
    cells = clashing_cells(all_demands(table, checked_trees(table, trees)))
    return cells[0] if cells else None


def least_of(table, trees):
    """The resolution that has just the demands of all these trees."""
    check_table(table)
    told = all_demands(table, checked_trees(table, trees))
    if clashing_cells(told):
        raise InvalidOperation("the trees clash")
    return resolution_of(told)
