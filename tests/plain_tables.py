"""Tables, told plainly: sets of single items, and lookaheads from all states with lookaheads."""

END = "$"


def body_of(grammar, name):
    """The body of a production, that of "accept" too."""
    return (grammar.start,) if name == "accept" else grammar[name][2]


def row_firsts(grammar, row, behind):
    """The set of terminals, or of what comes behind, with which a row of symbols and what is behind it begin."""
    if not row:
        return {behind}
    if not row[0][0].isupper():
        return {row[0]}
    firsts = set(grammar.firsts(row[0]))
    found = firsts - {""}
    return found | row_firsts(grammar, row[1:], behind) if "" in firsts else found


def complete(grammar, items):
    """The least complete set of items, with lookaheads if the items have them."""
    found = set(items)
    while True:
        more = set()
        for name, dot, *ahead in found:
            body = body_of(grammar, name)
            if dot < len(body) and body[dot][0].isupper():
                for inner in grammar.of(body[dot]):
                    if ahead:
                        more |= {(inner, 0, each) for each in row_firsts(grammar, body[dot + 1:], ahead[0])}
                    else:
                        more.add((inner, 0))
        if more <= found:
            return frozenset(found)
        found |= more


def led(grammar, state, symbol):
    """The state to which a symbol leads, or None."""
    items = {(name, dot + 1, *ahead) for name, dot, *ahead in state
             if dot < len(body_of(grammar, name)) and body_of(grammar, name)[dot] == symbol}
    return complete(grammar, items) if items else None


def states(grammar, with_lookaheads):
    """The list of the states by their numbers, and the dict of what leads where."""
    first = complete(grammar, {("accept", 0, END) if with_lookaheads else ("accept", 0)})
    found, moves = [first], {}
    for at, state in enumerate(found):
        for symbol in sorted(grammar.terminals) + sorted(grammar.nonterminals):
            behind = led(grammar, state, symbol)
            if behind is not None:
                if behind not in found:
                    found.append(behind)
                moves[(at, symbol)] = found.index(behind)
    return found, moves


def bare(state):
    """The items without lookaheads."""
    return frozenset(item[:2] for item in state)


class PlainTable:
    """The same as a table, slowly."""

    def __init__(self, grammar, kind):
        self.grammar, self.kind = grammar, kind
        self.states, self.moves = states(grammar, kind == "lr1")
        self.exact = states(grammar, True)[0] if kind in ("lalr", "lr1") else []
        self.cells = {}
        for at in range(len(self.states)):
            for ahead in sorted(grammar.terminals + (END,)):
                actions = self.actions(at, ahead)
                if actions:
                    self.cells[(at, ahead)] = actions

    def lookaheads(self, at, name):
        """The lookaheads of the item of a production with the dot at the end in a state."""
        item = (name, len(body_of(self.grammar, name)))
        if item not in bare(self.states[at]):
            return ()
        if name == "accept":
            return (END,)
        if self.kind == "lr0":
            return tuple(sorted(self.grammar.terminals + (END,)))
        if self.kind == "slr":
            return self.grammar.follows(self.grammar[name][1])
        alike = [self.states[at]] if self.kind == "lr1" else [
            state for state in self.exact if bare(state) == bare(self.states[at])]
        return tuple(sorted({each[2] for state in alike for each in state if each[:2] == item}))

    def actions(self, at, ahead):
        """The actions of a cell."""
        found = [name for name in self.grammar.names + ("accept",) if ahead in self.lookaheads(at, name)]
        return tuple(sorted(found + (["shift"] if (at, ahead) in self.moves else [])))
