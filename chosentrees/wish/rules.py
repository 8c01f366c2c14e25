"""Rules: which productions and demands are let at spots, and what the spots of parts are.

The trail of a production at a spot has the state ahead of its body and those behind its parts, one after
another; for two parsers these are pairs of states. An index of a part is also one of its state ahead.
"""

from chosentrees.base.bars import FREE, BarTable, is_barred
from chosentrees.base.integers import is_ascending, is_index
from chosentrees.base.symbols import END
from chosentrees.wish.labels import accept_demand


def is_ahead(grammar, value):
    """Whether the value is a terminal of the grammar or the end."""
    return isinstance(value, str) and (value == END or value in grammar.terminals)


def is_grammar_nonterminal(grammar, value):
    """Whether the value is a nonterminal of the grammar."""
    return isinstance(value, str) and value in grammar.nonterminals


def is_row_of(value, words):
    """Whether the value is an ascending tuple of some of these words."""
    if not isinstance(value, tuple) or not all([isinstance(each, str) and each in words for each in value]):
        return False
    return is_ascending(value)


class Rule:
    """What the rules by filters and by parsers have in common.

    A resolution that is None lets all demands.
    """

    def __init__(self, table, resolution):
        """Keep the table and the resolution, and the productions by their names and heads."""
        self._table = table
        self._grammar = table.grammar
        self._resolution = resolution
        self._bodies = {name: body for name, head, body in self._grammar.productions}
        self._named = {symbol: self._grammar.of(symbol) for symbol in self._grammar.nonterminals}
        self._first_words = self._grammar.terminals + ("",)

    def names_below(self, symbol):
        """The names of the productions with this head, in the given order."""
        return self._named[symbol]

    def body_of(self, name):
        """The body of a production."""
        return self._bodies[name]

    def lets(self, cell, action):
        """Whether a demand is let."""
        return self._resolution is None or self._resolution.get(cell) == action

    def lets_accept(self):
        """Whether "accept" is let where whole trees end."""
        cell, action = accept_demand(self._table)
        return self.lets(cell, action)

    def is_firsts(self, value):
        """Whether the value is an ascending tuple of terminals of the grammar and the empty string."""
        return is_row_of(value, self._first_words)


class FilterRule(Rule):
    """The rule by a filter, or by a parser with the spots of a filter.

    A spot is (state, nonterminal, next, children, lefts, rights). By a parser no production is barred.
    """

    def __init__(self, table, bars, resolution=None):
        """Keep the bars, which are given as tuples."""
        Rule.__init__(self, table, resolution)
        self._bars = BarTable(bars)

    def whole_spot(self):
        """The spot of the whole tree."""
        return (0, self._grammar.start, END, *FREE)

    def symbol_of(self, spot):
        """The nonterminal of a spot."""
        return spot[1]

    def ahead_of(self, spot):
        """The next of a spot."""
        return spot[2]

    def is_spot(self, value):
        """Whether the value has the form of a spot."""
        if not isinstance(value, tuple) or len(value) != 6 or not is_index(value[0], len(self._table)):
            return False
        if not is_grammar_nonterminal(self._grammar, value[1]) or not is_ahead(self._grammar, value[2]):
            return False
        return all([is_row_of(row, self._grammar.names) for row in value[3:]])

    def trail(self, spot, name):
        """The trail of a production at a spot, or None if no chain of it begins there."""
        if self._resolution is None and is_barred(spot[3:], name):
            return None
        found = self._table.trail(spot[0], self._bodies[name])
        if found is None or not self.lets((found[-1], spot[2]), name):
            return None
        return found

    def lets_shift(self, state, terminal):
        """Whether the shift of a terminal is let at its state ahead."""
        return self.lets((state, terminal), "shift")

    def part_spot(self, spot, name, index, state, ahead):
        """The spot of a part of a node, by its state ahead and its next."""
        body = self._bodies[name]
        return (state, body[index], ahead, *self._bars.inside(name, len(body), index, spot[3:]))

    def reduction(self, spot, name, trail):
        """The demand of a node by its spot and trail."""
        return (trail[-1], spot[2]), name

    def is_outside(self, spot, name, trail):
        """Whether a node with this production and spot is barred by the filter, which a parser does not heed."""
        return is_barred(spot[3:], name)

    def chain_demands(self, spot, name, trail):
        """The ascending tuple of the demands of whole chains of a production at a spot, all the same."""
        found = [((trail[index], symbol), "shift") for index, symbol in enumerate(self._bodies[name])
                 if symbol in self._grammar.terminals]
        found.append(self.reduction(spot, name, trail))
        return tuple(sorted(set(found)))


class PairRule(Rule):
    """The rule by the first of two parsers, with the states of both.

    A spot is (state, state, nonterminal, next).
    """

    def __init__(self, parser, other):
        """Keep the resolution of the first parser, and the table and the resolution of the other one."""
        Rule.__init__(self, parser.table, parser.resolution)
        self._other_table = other.table
        self._other_resolution = other.resolution

    def whole_spot(self):
        """The spot of the whole tree."""
        return 0, 0, self._grammar.start, END

    def symbol_of(self, spot):
        """The nonterminal of a spot."""
        return spot[2]

    def ahead_of(self, spot):
        """The next of a spot."""
        return spot[3]

    def is_spot(self, value):
        """Whether the value has the form of a spot."""
        if not isinstance(value, tuple) or len(value) != 4 or not is_index(value[0], len(self._table)):
            return False
        if not is_index(value[1], len(self._other_table)):
            return False
        return is_grammar_nonterminal(self._grammar, value[2]) and is_ahead(self._grammar, value[3])

    def trail(self, spot, name):
        """The trail of a production at a spot, or None if no chain of it begins there."""
        body = self._bodies[name]
        found = self._table.trail(spot[0], body)
        others = self._other_table.trail(spot[1], body)
        if found is None or others is None or not self.lets((found[-1], spot[3]), name):
            return None
        return tuple(zip(found, others))

    def lets_shift(self, state, terminal):
        """Whether the shift of a terminal is let at its states ahead."""
        return self.lets((state[0], terminal), "shift")

    def part_spot(self, spot, name, index, state, ahead):
        """The spot of a part of a node, by its states ahead and its next."""
        return (*state, self._bodies[name][index], ahead)

    def other_accepts(self):
        """Whether the other parser has "accept" where whole trees end."""
        cell, action = accept_demand(self._other_table)
        return self._other_resolution.get(cell) == action

    def is_outside(self, spot, name, trail):
        """Whether the other parser lacks a demand of a node with this production and spot, or of its terminals."""
        if self._other_resolution.get((trail[-1][1], spot[3])) != name:
            return True
        return any([self._other_resolution.get((trail[index][1], symbol)) != "shift"
                    for index, symbol in enumerate(self._bodies[name]) if symbol in self._grammar.terminals])
