"""The least closed survey, and least trees with a demand, by one search.

The search finds, for spots and firsts, trees with as few nodes as can be, the cheapest ones first. A row is
a part of a chain: (spot, name, dot, first, mark), with the number of the spot, the first so far, and whether
the node, or something behind the dot, has one of the demands that are looked for. Its cost is the number of
nodes. A row with the dot 0 is a whole chain.
"""

from heapq import heappop, heappush

from chosentrees.base.charts import folded
from chosentrees.base.symbols import is_nonterminal
from chosentrees.errors import TooMany


class Search:
    """All firsts of all spots to which the spot of the whole tree leads, and a least tree for each.

    `wanted` is a dict from the demands that are looked for to True. Rows of more than `most` nodes are left
    out, if it is not None.
    """

    def __init__(self, rule, limit, wanted, most=None):
        """Search on until all is found."""
        self._rule = rule
        self._limit = limit
        self._wanted = wanted
        self._most = most
        self._spots = []
        self._numbers = {}
        self._trails = {}
        self._waiting = []
        self._done = []
        self._queue = []
        self._costs = {}
        self._origins = {}
        self._closed = {}
        self._number(rule.whole_spot())
        while self._queue:
            cost, row = heappop(self._queue)
            if row not in self._closed:
                self._closed[row] = True
                self._advance(cost, row)

    def _number(self, spot):
        """The number of a spot; the chains of a new one begin."""
        if spot in self._numbers:
            return self._numbers[spot]
        number = len(self._spots)
        if number == self._limit:
            raise TooMany(self._limit)
        self._numbers[spot] = number
        self._spots.append(spot)
        self._waiting.append([])
        self._done.append({})
        for name in self._rule.names_below(self._rule.symbol_of(spot)):
            trail = self._rule.trail(spot, name)
            if trail is not None:
                self._trails[(number, name)] = trail
                mark = self._is_wanted(self._rule.reduction(spot, name, trail)) if self._wanted else False
                self._add(1, (number, name, len(self._rule.body_of(name)), "", mark), None)
        return number

    def _is_wanted(self, demand):
        """Whether a demand is looked for."""
        return demand in self._wanted

    def _add(self, cost, row, origin):
        """Add a row, if it is cheaper than before, with what it comes from."""
        if self._most is not None and cost > self._most:
            return
        if row not in self._costs or cost < self._costs[row]:
            self._costs[row] = cost
            self._origins[row] = origin
            heappush(self._queue, (cost, row))

    def _advance(self, cost, row):
        """Go through the symbol ahead of the dot of a row, or end it."""
        number, name, dot, first, mark = row
        if dot == 0:
            self._end(cost, row)
            return
        symbol = self._rule.body_of(name)[dot - 1]
        state = self._trails[(number, name)][dot - 1]
        if not is_nonterminal(symbol):
            if self._rule.lets_shift(state, symbol):
                seen = mark or (bool(self._wanted) and self._is_wanted(((state, symbol), "shift")))
                self._add(cost, (number, name, dot - 1, symbol, seen), (row, None))
            return
        spot = self._spots[number]
        ahead = self._rule.ahead_of(spot) if first == "" else first
        inner = self._number(self._rule.part_spot(spot, name, dot - 1, state, ahead))
        self._waiting[inner].append((cost, row))
        for end in self._done[inner]:
            self._join(cost, row, inner, end)

    def _end(self, cost, row):
        """End a whole chain: it is a tree for each row that waits for one of this spot, if it is the first such."""
        number, name, _, first, mark = row
        end = (first, mark)
        if end in self._done[number]:
            return
        self._done[number][end] = (cost, row)
        for other_cost, other in self._waiting[number]:
            self._join(other_cost, other, number, end)

    def _join(self, cost, row, inner, end):
        """Add what a row becomes with the tree of the spot of the part ahead of its dot."""
        number, name, dot, first, mark = row
        own, own_mark = end
        wider = (number, name, dot - 1, first if own == "" else own, mark or own_mark)
        self._add(cost + self._done[inner][end][0], wider, (row, (inner, end)))

    def firsts(self):
        """The dict from all spots that were found to the ascending tuples of their firsts; its keys ascend."""
        found = {}
        for spot in sorted(self._spots):
            ends = self._done[self._numbers[spot]]
            found[spot] = tuple(sorted(set([first for first, mark in ends])))
        return found

    def least_tree(self, is_marked):
        """A least whole tree, if asked for one with a demand that is looked for, or None."""
        ends = self._done[0]
        choices = [(ends[end][0], end) for end in ends if end[1] or not is_marked]
        if not choices:
            return None
        return self._tree(min(choices)[1])

    def _tree(self, end):
        """The whole tree with this end that was found."""
        entries = []
        tasks = [(0, end)]
        while tasks:
            task = tasks.pop()
            if isinstance(task, str):
                entries.append(task)
            else:
                name, parts = self._parts(task)
                entries.append((name, len(parts)))
                tasks.extend(parts[::-1])
        return folded(entries)

    def _parts(self, task):
        """The name of the production of the tree of a spot with an end, and the list of its parts."""
        number, end = task
        row = self._done[number][end][1]
        name = row[1]
        body = self._rule.body_of(name)
        parts = []
        while row[2] < len(body):
            before, inner = self._origins[row]
            parts.append(body[row[2]] if inner is None else inner)
            row = before
        return name, parts
