"""Grammars, trees, resolutions, filters and levels as texts, and read from them."""

from chosentrees.base.forests import folded
from chosentrees.base.grammars import Grammar
from chosentrees.base.integers import is_integer
from chosentrees.base.symbols import is_name, is_nonterminal
from chosentrees.base.trees import MAX_NODES, check_grammar, check_tree, placed
from chosentrees.errors import InvalidFilter, InvalidLevels, ParseError
from chosentrees.table.levels import ASSOCIATIVITIES, Levels, is_group
from chosentrees.table.resolutions import check_any_resolution, is_any_action, is_any_cell
from chosentrees.wish.filters import Filter, is_bar

DIGITS = "0123456789"
MAX_DIGITS = 60


def written_number(word):
    """The integer of at least 0 that is written so, or None."""
    if not 1 <= len(word) <= MAX_DIGITS or not all([digit in DIGITS for digit in word]):
        return None
    if word[0] == "0" and word != "0":
        return None
    return int(word)


def lines_of(text):
    """The list of the lines of a text, none for the empty one."""
    if not isinstance(text, str):
        raise ParseError(None)
    return text.split("\n") if text != "" else []


def read_rows(text, read_row):
    """The list of the pairs that the lines of a text are read as; the first values of them ascend.

    `read_row` returns None for what is no line.
    """
    rows = []
    for index, line in enumerate(lines_of(text)):
        row = read_row(line)
        if row is None or (rows != [] and row[0] <= rows[-1][0]):
            raise ParseError(index)
        rows.append(row)
    return rows


def write_grammar(grammar):
    """The lines of the productions, in their order."""
    check_grammar(grammar)
    return "\n".join(grammar.lines)


def read_grammar(text):
    """The grammar with the productions of these lines."""
    if not isinstance(text, str):
        raise ParseError(None)
    # The empty text has one line, which is none of a production.
    lines = text.split("\n")
    return Grammar.from_lines(*lines)


def tree_text(tree):
    """The text of a tree of any size that is not checked."""
    return " ".join([part if isinstance(part, str) else part[0] for path, part in placed(tree)])


def write_tree(grammar, tree):
    """The name of the production, and then the parts in order, terminals and trees."""
    check_tree(grammar, tree)
    return tree_text(tree)


def tree_entries(grammar, words):
    """The list of the nodes and terminals of the tree that is written by these words, or None."""
    rows = {name: (head, body) for name, head, body in grammar.productions}
    entries = []
    coming = [""]
    for word in words:
        if not coming:
            return None
        # The empty string stands for a nonterminal of any kind.
        symbol = coming.pop()
        if symbol == "" or is_nonterminal(symbol):
            if word not in rows or symbol not in ("", rows[word][0]):
                return None
            body = rows[word][1]
            entries.append((word, len(body)))
            coming.extend(body[::-1])
        elif word == symbol:
            entries.append(word)
        else:
            return None
    return None if coming else entries


def read_tree(grammar, line):
    """The tree of some nonterminal of the grammar that is written so."""
    check_grammar(grammar)
    entries = tree_entries(grammar, line.split(" ")) if isinstance(line, str) else None
    if entries is None or len([entry for entry in entries if not isinstance(entry, str)]) > MAX_NODES:
        raise ParseError(None)
    return folded(entries)


def write_demand(demand):
    """The text of a cell with an action."""
    (state, lookahead), action = demand
    return f"{state} {lookahead} {action}"


def write_resolution(resolution):
    """A line for each cell, ascending."""
    check_any_resolution(resolution)
    return "\n".join([write_demand((cell, resolution[cell])) for cell in sorted(resolution)])


def read_demand(line):
    """The pair of a cell and an action that is written so, or None."""
    words = line.split(" ")
    if len(words) != 3:
        return None
    cell = (written_number(words[0]), words[1])
    return (cell, words[2]) if is_any_cell(cell) and is_any_action(words[2]) else None


def read_resolution(text):
    """The resolution with these lines."""
    return {cell: action for cell, action in read_rows(text, read_demand)}


def write_filter(bars):
    """A line for each bar, ascending."""
    if not isinstance(bars, Filter):
        raise InvalidFilter("a value is no filter")
    return "\n".join([f"{how} {outer} {index} {inner}" for how, outer, index, inner in bars.bars])


def read_bar(line):
    """The bar that is written so, alone in a tuple, or None."""
    words = line.split(" ")
    if len(words) != 4:
        return None
    bar = (words[0], words[1], written_number(words[2]), words[3])
    return (bar,) if is_bar(bar) else None


def read_filter(text):
    """The filter with these lines."""
    return Filter(tuple([row[0] for row in read_rows(text, read_bar)]))


def write_levels(levels):
    """A line for each level, the lowest first, one for each name with a level of its own, and one for the order."""
    if not isinstance(levels, Levels):
        raise InvalidLevels("a value is no levels")
    lines = [" ".join([associativity, *terminals]) for associativity, terminals in levels.groups]
    for name, index in levels.own.items():
        lines.append(f"own {name} -" if index is None else f"own {name} {index}")
    if levels.order:
        lines.append(" ".join(["order", *levels.order]))
    return "\n".join(lines)


def read_group(words):
    """What a line of a level is read as: its place among the lines, and the level; or None."""
    group = (words[0], tuple(words[1:]))
    return ((0, ""), group) if is_group(group) else None


def read_own(words):
    """What a line of a name is read as: its place among the lines, and the index of a level or None; or None."""
    if len(words) != 3 or not is_name(words[1]):
        return None
    index = None if words[2] == "-" else written_number(words[2])
    return ((1, words[1]), index) if words[2] == "-" or is_integer(index) else None


def read_order(words):
    """What a line of an order is read as: its place among the lines, and the names; or None."""
    names = tuple(words[1:])
    return ((2, ""), names) if names and all([is_name(name) for name in names]) else None


def read_levels_line(line):
    """What a line of levels is read as: its place among the lines, and what it tells; or None."""
    words = line.split(" ")
    if words[0] in ASSOCIATIVITIES:
        return read_group(words)
    if words[0] == "own":
        return read_own(words)
    return read_order(words) if words[0] == "order" else None


def read_levels(text):
    """The levels with these lines."""
    rows = []
    for index, line in enumerate(lines_of(text)):
        row = read_levels_line(line)
        # Levels may have the same place, as they come in any order; other lines may not.
        if row is None or (rows != [] and row[0] < rows[-1][0]) or (rows != [] and row[0] == rows[-1][0] != (0, "")):
            raise ParseError(index)
        rows.append(row)
    groups = tuple([value for place, value in rows if place[0] == 0])
    own = {place[1]: value for place, value in rows if place[0] == 1}
    order = tuple([name for place, value in rows if place[0] == 2 for name in value])
    return Levels(groups, own=own, order=order)
