"""The grammar written out: the labels and rows of all trees that a parser builds."""

from chosentrees.base.forests import forest_trees
from chosentrees.base.integers import is_integer
from chosentrees.base.symbols import is_nonterminal
from chosentrees.base.trees import check_grammar, check_text
from chosentrees.compare.labelled import LabelForest
from chosentrees.errors import InvalidOperation, TooMany
from chosentrees.wish.filters import Filter
from chosentrees.wish.rules import is_ahead
from chosentrees.wish.surveys import least_survey, parser_rule
from chosentrees.wish.used import used_chains

MAX_ROWS = 4000


def spot_label(spot, first):
    """The label of a node with a spot and a first."""
    return spot[0], spot[1], first, spot[2]


def written_part(part):
    """A part of a row: a terminal, or the label of a spot with a first."""
    return part if isinstance(part, str) else spot_label(part[0], part[1])


def all_rows(rule, survey):
    """The ascending tuple of the rows of all trees that are let, by the least survey; it is an error if many are."""
    found = {}
    for spot, first, layers in used_chains(rule, survey):
        for parts in layers.used_rows(first, MAX_ROWS):
            row = (spot_label(spot, first), layers.production(), tuple([written_part(part) for part in parts]))
            found[row] = True
        if len(found) > MAX_ROWS:
            raise TooMany(MAX_ROWS)
    return tuple(sorted(found))


def written_out(parser):
    """The labels of the whole trees that the parser builds, and the rows of all nodes of them."""
    rule = parser_rule(parser, Filter())
    firsts, spots = least_survey(rule)
    whole = rule.whole_spot()
    starts = [spot_label(whole, first) for first in firsts[whole]] if spots else []
    return tuple(sorted(starts)), all_rows(rule, (firsts, spots))


def label_count(parser):
    """The number of different labels in the rows of the grammar written out."""
    starts, rows = written_out(parser)
    return len({label for label, name, parts in rows})


def is_label(grammar, value, symbol):
    """Whether the value is a label with this nonterminal, and with any integer of at least 0 as its state."""
    if not isinstance(value, tuple) or len(value) != 4 or not is_integer(value[0]) or value[0] < 0:
        return False
    if not isinstance(value[1], str) or value[1] != symbol or not isinstance(value[2], str):
        return False
    return (value[2] == "" or value[2] in grammar.terminals) and is_ahead(grammar, value[3])


def is_written_part(grammar, symbol, value):
    """Whether the value is a part of a row for a symbol of the body: this terminal, or a label of this nonterminal."""
    if is_nonterminal(symbol):
        return is_label(grammar, value, symbol)
    return isinstance(value, str) and value == symbol


def is_written_row(grammar, value):
    """Whether the value is a row."""
    if not isinstance(value, tuple) or len(value) != 3:
        return False
    label, name, parts = value
    if not isinstance(name, str) or name not in grammar.names or not isinstance(parts, tuple):
        return False
    _, head, body = grammar[name]
    if not is_label(grammar, label, head) or len(parts) != len(body):
        return False
    return all([is_written_part(grammar, symbol, part) for symbol, part in zip(body, parts)])


def is_written(grammar, value):
    """Whether the value is a pair of a tuple of labels of the start and a tuple of rows."""
    if not isinstance(value, tuple) or len(value) != 2:
        return False
    starts, rows = value
    if not isinstance(starts, tuple) or not isinstance(rows, tuple):
        return False
    return all([is_label(grammar, label, grammar.start) for label in starts]) and all(
        [is_written_row(grammar, row) for row in rows])


def readings(grammar, value, text):
    """The trees of the grammar with this text that can have one of the labels of a pair, by its rows, each once."""
    check_grammar(grammar)
    if not is_written(grammar, value):
        raise InvalidOperation("a value is no pair of labels of the start and of rows")
    check_text(grammar, text)
    starts, rows = value
    forest = LabelForest(grammar, rows, starts, text)
    yield from forest_trees(forest)
