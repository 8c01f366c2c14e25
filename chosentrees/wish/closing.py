"""The least closed survey, and least trees and texts with a mark, by one search.

The search finds, for spots and firsts, the cheapest trees, in ascending order of their costs. A measure tells
the costs: no tree costs less than a part of it, and with a cheaper part it does not cost more. A row is a part
of a chain: (spot, name, dot, first, mark), with the number of the spot, the first so far, and whether the node,
or something behind the dot, is marked. A row with the dot 0 is a whole chain.
"""

from heapq import heappop, heappush

from chosentrees.base.forests import folded
from chosentrees.base.symbols import is_nonterminal
from chosentrees.errors import TooMany


class NoMarks:
    """Nothing is marked."""

    def is_marked(self, rule, spot, name, trail):
        """Whether the nodes of whole chains of a production at a spot are marked."""
        return False


class DemandMarks:
    """Marked are the nodes that have one of some demands, themselves or by their terminals."""

    def __init__(self, wanted):
        """Keep the demands."""
        self._wanted = {demand: True for demand in wanted}

    def is_marked(self, rule, spot, name, trail):
        """Whether the nodes of whole chains of a production at a spot are marked."""
        return any([demand in self._wanted for demand in rule.chain_demands(spot, name, trail)])


class OutsideMarks:
    """Marked are the nodes that are outside of what the rule is held against."""

    def is_marked(self, rule, spot, name, trail):
        """Whether the nodes of whole chains of a production at a spot are marked."""
        return rule.is_outside(spot, name, trail)


class NodeMeasure:
    """A cost is a number of nodes. Costs above `most` are too high, if it is not None."""

    def __init__(self, most=None):
        """Keep the highest cost."""
        self._most = most

    def of_node(self):
        """The cost of a node without its parts."""
        return 1

    def with_terminal(self, terminal, cost):
        """The cost with a terminal ahead of the others."""
        return cost

    def with_part(self, part, cost):
        """The cost with a part with a cost ahead of the others."""
        return part + cost

    def is_too_high(self, cost):
        """Whether a cost is above the highest one."""
        return self._most is not None and cost > self._most


class TextMeasure:
    """A cost is a pair of the length of a text and the text. Lengths above `most` are too high."""

    def __init__(self, most):
        """Keep the greatest length."""
        self._most = most

    def of_node(self):
        """The cost of a node without its parts."""
        return 0, ()

    def with_terminal(self, terminal, cost):
        """The cost with a terminal ahead of the others."""
        return cost[0] + 1, (terminal, *cost[1])

    def with_part(self, part, cost):
        """The cost with a part with a cost ahead of the others."""
        return part[0] + cost[0], part[1] + cost[1]

    def is_too_high(self, cost):
        """Whether a cost is above the highest one."""
        return cost[0] > self._most


class Search:
    """All firsts of all spots to which the spot of the whole tree leads, and a cheapest tree for each.

    Rows with costs that are too high are left out.
    """

    def __init__(self, rule, limit, marks, measure):
        """Search on until all is found."""
        self._rule = rule
        self._limit = limit
        self._marks = marks
        self._measure = measure
        self._spots = []
        self._numbers = {}
        self._trails = {}
        self._waiting = []
        self._done = []
        self._coming = []
        self._costs = {}
        self._origins = {}
        self._number(rule.whole_spot())
        queue = []
        closed = {}
        while self._coming or queue:
            for entry in self._coming:
                heappush(queue, entry)
            self._coming = []
            cost, row = heappop(queue)
            if row not in closed:
                closed[row] = True
                self._advance(cost, row)

    def _number(self, spot):
        """The number of a spot; the chains of a new one begin."""
        if spot in self._numbers:
            return self._numbers[spot]
        number = len(self._spots)
        if number == self._limit:
            raise TooMany(self._limit)
        self._numbers[spot] = number
        self._spots.append(spot)
        self._waiting.append([])
        self._done.append({})
        for name in self._rule.names_below(self._rule.symbol_of(spot)):
            trail = self._rule.trail(spot, name)
            if trail is not None:
                self._trails[(number, name)] = trail
                mark = self._marks.is_marked(self._rule, spot, name, trail)
                row = (number, name, len(self._rule.body_of(name)), "", mark)
                self._add(self._measure.of_node(), row, None)
        return number

    def _add(self, cost, row, origin):
        """Add a row, if it is cheaper than before, with what it comes from."""
        if self._measure.is_too_high(cost):
            return
        if row not in self._costs or cost < self._costs[row]:
            self._costs[row] = cost
            self._origins[row] = origin
            self._coming.append((cost, row))

    def _advance(self, cost, row):
        """Go through the symbol ahead of the dot of a row, or end it."""
        number, name, dot, first, mark = row
        if dot == 0:
            self._end(cost, row)
            return
        symbol = self._rule.body_of(name)[dot - 1]
        state = self._trails[(number, name)][dot - 1]
        if not is_nonterminal(symbol):
            if self._rule.lets_shift(state, symbol):
                wider = (number, name, dot - 1, symbol, mark)
                self._add(self._measure.with_terminal(symbol, cost), wider, (row, None))
            return
        spot = self._spots[number]
        ahead = self._rule.ahead_of(spot) if first == "" else first
        inner = self._number(self._rule.part_spot(spot, name, dot - 1, state, ahead))
        self._waiting[inner].append((cost, row))
        for end in self._done[inner]:
            self._join(cost, row, inner, end)

    def _end(self, cost, row):
        """End a whole chain: it is a tree for each row that waits for one of this spot, if it is the first such."""
        number, name, _, first, mark = row
        end = (first, mark)
        if end in self._done[number]:
            return
        self._done[number][end] = (cost, row)
        for other_cost, other in self._waiting[number]:
            self._join(other_cost, other, number, end)

    def _join(self, cost, row, inner, end):
        """Add what a row becomes with the tree of the spot of the part ahead of its dot."""
        number, name, dot, first, mark = row
        own, own_mark = end
        wider = (number, name, dot - 1, first if own == "" else own, mark or own_mark)
        self._add(self._measure.with_part(self._done[inner][end][0], cost), wider, (row, (inner, end)))

    def firsts(self):
        """The dict from all spots that were found to the ascending tuples of their firsts; its keys ascend."""
        found = {}
        for spot in sorted(self._spots):
            ends = self._done[self._numbers[spot]]
            found[spot] = tuple(sorted(set([first for first, mark in ends])))
        return found

    def least(self, with_mark):
        """The least cost of a whole tree, if asked for with a mark, and what tells the tree, or None."""
        ends = self._done[0]
        choices = [(ends[end][0], end) for end in ends if end[1] or not with_mark]
        return min(choices) if choices else None

    def least_tree(self, with_mark):
        """A cheapest whole tree, if asked for with a mark, or None."""
        found = self.least(with_mark)
        return None if found is None else self._tree(found[1])

    def _tree(self, end):
        """The whole tree with this end that was found."""
        entries = []
        tasks = [(0, end)]
        while tasks:
            task = tasks.pop()
            if isinstance(task, str):
                entries.append(task)
            else:
                name, parts = self._parts(task)
                entries.append((name, len(parts)))
                tasks.extend(parts[::-1])
        return folded(entries)

    def _parts(self, task):
        """The name of the production of the tree of a spot with an end, and the list of its parts."""
        number, end = task
        row = self._done[number][end][1]
        name = row[1]
        body = self._rule.body_of(name)
        parts = []
        while row[2] < len(body):
            before, inner = self._origins[row]
            parts.append(body[row[2]] if inner is None else inner)
            row = before
        return name, parts
