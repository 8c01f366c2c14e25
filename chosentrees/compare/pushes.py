"""What runs over all texts come to, told by what happens above each state of a stack.

A cell is met if its state is put on a stack, or is the first one, and the lookahead comes next then. Above a
met cell, that is above its state until it is taken off, runs of all texts that begin with its lookahead go on.
They are told by facts, each with the terminals that are shifted meanwhile, a least row of them:

- ("over", cell, inner): the next state above that of the cell is put on, so that the inner cell is met;
- ("off", cell, head, many, lookahead): a reduction to this head takes off the state of the cell, and so many
  more below it, at this lookahead;
- ("met", cell): the cell is met by a run from its beginning on.
"""

from heapq import heappop, heappush

from chosentrees.base.symbols import END


class NoMeasure:
    """All rows of terminals are taken for equal."""

    def of_node(self):
        """The cost of no terminals."""
        return 0

    def with_terminal(self, terminal, cost):
        """The cost with a terminal ahead."""
        return cost

    def with_part(self, part, cost):
        """The cost of a row ahead of another one."""
        return 0

    def is_too_high(self, cost):
        """Whether a row is too long."""
        return False


class Pushes:
    """All facts of a parser about the cells that are met from some first ones on; a fact has its least cost.

    Shifts can be left out. With a measure that has a highest cost, facts above it are left out.
    """

    def __init__(self, parser, first_cells, measure, with_shifts):
        """Search on until all is found, the cheapest facts first."""
        self._table = parser.table
        self._resolution = parser.resolution
        self._rows = {name: (head, len(body)) for name, head, body in parser.grammar.productions}
        self._lookaheads = parser.grammar.terminals + (END,)
        self._measure = measure
        self._with_shifts = with_shifts
        self._coming = []
        self._costs = {}
        self._overs = {}
        self._callers = {}
        self._offs = {}
        for cell in first_cells:
            self._begin(cell)
            self._push(measure.of_node(), ("met", cell))
        queue = []
        closed = {}
        while self._coming or queue:
            for entry in self._coming:
                heappush(queue, entry)
            self._coming = []
            cost, fact = heappop(queue)
            if fact not in closed:
                closed[fact] = True
                self._advance(cost, fact)

    def _push(self, cost, fact):
        """Add a fact, if it is cheaper than before."""
        if self._measure.is_too_high(cost):
            return
        if fact not in self._costs or cost < self._costs[fact]:
            self._costs[fact] = cost
            self._coming.append((cost, fact))

    def _begin(self, cell):
        """Add what comes of a cell that is met, if this is its first time."""
        if cell in self._overs:
            return
        self._overs[cell] = []
        self._callers[cell] = []
        self._offs[cell] = []
        action = self._resolution.get(cell)
        if action == "shift":
            if self._with_shifts:
                self._shift(cell)
        elif action is not None and action != "accept":
            head, many = self._rows[action]
            if many == 0:
                self._put(self._measure.of_node(), cell, head, cell[1])
            else:
                self._push(self._measure.of_node(), ("off", cell, head, many - 1, cell[1]))

    def _shift(self, cell):
        """Add the facts of a shift: any lookahead can come next."""
        state, terminal = cell
        cost = self._measure.with_terminal(terminal, self._measure.of_node())
        for lookahead in self._lookaheads:
            self._push(cost, ("over", cell, (self._table.after(state, terminal), lookahead)))

    def _put(self, cost, cell, head, lookahead):
        """Add that the state to which a head leads is put on that of a cell."""
        self._push(cost, ("over", cell, (self._table.after(cell[0], head), lookahead)))

    def _advance(self, cost, fact):
        """Add what comes of a fact."""
        word, cell = fact[:2]
        if word == "met":
            for inner, part in self._overs[cell]:
                self._push(self._measure.with_part(cost, part), ("met", inner))
        elif word == "over":
            self._over(cost, cell, fact[2])
        else:
            self._offs[cell].append((fact[2:], cost))
            for outer, part in self._callers[cell]:
                self._join(outer, part, fact[2:], cost)

    def _over(self, cost, cell, inner):
        """Add what comes of a cell that is met right above another one."""
        self._begin(inner)
        self._overs[cell].append((inner, cost))
        self._callers[inner].append((cell, cost))
        for off, part in self._offs[inner]:
            self._join(cell, cost, off, part)
        if ("met", cell) in self._costs:
            self._push(self._measure.with_part(self._costs[("met", cell)], cost), ("met", inner))

    def _join(self, cell, ahead, off, behind):
        """Add that a state right above that of a cell is taken off, after what came ahead of it and behind."""
        head, many, lookahead = off
        cost = self._measure.with_part(ahead, behind)
        if many == 0:
            self._put(cost, cell, head, lookahead)
        else:
            self._push(cost, ("off", cell, head, many - 1, lookahead))

    def met(self):
        """The list of the cells that are met."""
        return [fact[1] for fact in self._costs if fact[0] == "met"]

    def cost_of(self, cell):
        """The least cost at which a cell is met, or None."""
        return self._costs.get(("met", cell))

    def above(self, cell):
        """The list of the cells that are met right above a cell."""
        return [inner for inner, cost in self._overs[cell]]
