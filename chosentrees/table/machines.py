"""The states of tables, with lookaheads or without.

An item is a pair of the index of a production and a dot; the production for "accept" has the index 0. The
lookaheads of an item are a mask: each terminal, and the end, has a bit.
"""

from chosentrees.base.symbols import END, is_nonterminal
from chosentrees.errors import TooMany

START_ITEM = (0, 0)


class Machine:
    """The productions of a grammar with the one for "accept", and what comes next behind their dots."""

    def __init__(self, grammar):
        """Keep the productions, and number the lookaheads."""
        self.table_productions = (("accept", "", (grammar.start,)),) + grammar.productions
        self.all_lookaheads = tuple(sorted(grammar.terminals + (END,)))
        self.all_symbols = grammar.terminals + grammar.nonterminals
        self._indices = {symbol: [index for index, row in enumerate(self.table_productions) if row[1] == symbol]
                         for symbol in grammar.nonterminals}
        self._firsts = {symbol: grammar.firsts(symbol) for symbol in grammar.nonterminals}
        self._behind = {(index, dot): self._row_mask(body[dot + 1:])
                        for index, (name, head, body) in enumerate(self.table_productions) for dot in range(len(body))}

    def mask(self, lookahead):
        """The mask that has this lookahead alone."""
        return 1 << self.all_lookaheads.index(lookahead)

    def lookaheads_of(self, mask):
        """The ascending tuple of the lookaheads of a mask."""
        return tuple([each for index, each in enumerate(self.all_lookaheads) if (mask >> index) & 1])

    def _row_mask(self, row):
        """The mask of the terminals that a row of symbols can begin with, and whether it can be empty."""
        mask = 0
        for symbol in row:
            firsts = self._firsts[symbol] if is_nonterminal(symbol) else (symbol,)
            for first in firsts:
                if first != "":
                    mask = mask | self.mask(first)
            if "" not in firsts:
                return mask, False
        return mask, True

    def symbol_behind(self, item):
        """The next symbol of an item, or None."""
        index, dot = item
        body = self.table_productions[index][2]
        return body[dot] if dot < len(body) else None

    def completed(self, kernel, is_exact):
        """The least complete set with these items, as a dict from items to masks.

        If it is not exact, no lookaheads are told: all masks of added items are 0.
        """
        found = {item: kernel[item] for item in kernel}
        waiting = list(kernel)
        while waiting:
            item = waiting.pop()
            symbol = self.symbol_behind(item)
            if symbol is None or not is_nonterminal(symbol):
                continue
            firsts, is_open = self._behind[item]
            coming = (firsts | (found[item] if is_open else 0)) if is_exact else 0
            for index in self._indices[symbol]:
                added = (index, 0)
                if added not in found or found[added] | coming != found[added]:
                    found[added] = found.get(added, 0) | coming
                    waiting.append(added)
        return found

    def moved(self, items):
        """A dict from the next symbols of these items to the items behind them: terminals first, both ascending."""
        found = {}
        for item in items:
            symbol = self.symbol_behind(item)
            if symbol is not None:
                found.setdefault(symbol, {})[(item[0], item[1] + 1)] = items[item]
        return {symbol: found[symbol] for symbol in self.all_symbols if symbol in found}


def kernel_key(kernel):
    """What two equal dicts of items and masks have in common."""
    return tuple(sorted([(index, dot, kernel[(index, dot)]) for index, dot in kernel]))


def found_states(machine, is_exact, limit):
    """The list of the states, as dicts from items to masks, and that of their dicts from symbols to states.

    With lookaheads a set of items with masks stands for the set of items with single lookaheads. The dotless
    items follow from the others, so that states are equal if these are.
    """
    kernel = {START_ITEM: machine.mask(END) if is_exact else 0}
    numbers = {kernel_key(kernel): 0}
    kernels = [kernel]
    states = []
    moves = []
    while len(states) < len(kernels):
        states.append(machine.completed(kernels[len(states)], is_exact))
        leads = {}
        moved = machine.moved(states[len(states) - 1])
        for symbol in moved:
            key = kernel_key(moved[symbol])
            if key not in numbers:
                if len(kernels) == limit:
                    raise TooMany(limit)
                numbers[key] = len(kernels)
                kernels.append(moved[symbol])
            leads[symbol] = numbers[key]
        moves.append(leads)
    return states, moves


def merged_states(machine, moves, many):
    """For each state without lookaheads its items with those that they have in any state with lookaheads.

    They are sent on from state to state until nothing is added.
    """
    kernels = [{} for _ in range(many)]
    kernels[0] = {START_ITEM: machine.mask(END)}
    waiting = [0]
    while waiting:
        state = waiting.pop()
        moved = machine.moved(machine.completed(kernels[state], True))
        for symbol in moved:
            behind = moves[state][symbol]
            old = kernels[behind]
            wider = {item: old.get(item, 0) | moved[symbol][item] for item in moved[symbol]}
            if wider != old:
                kernels[behind] = wider
                waiting.append(behind)
    return [machine.completed(kernel, True) for kernel in kernels]


def matched_states(moves, plain_moves):
    """For each state the number of the one to which the same symbols lead among states without lookaheads."""
    cores = {0: 0}
    waiting = [0]
    while waiting:
        state = waiting.pop()
        for symbol in moves[state]:
            behind = moves[state][symbol]
            if behind not in cores:
                cores[behind] = plain_moves[cores[state]][symbol]
                waiting.append(behind)
    return cores
