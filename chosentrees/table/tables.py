"""Tables: states, lookaheads, cells and conflicts."""

from chosentrees.base.grammars import Grammar
from chosentrees.base.integers import is_index
from chosentrees.base.symbols import END
from chosentrees.errors import InvalidGrammar, InvalidOperation, UnknownName
from chosentrees.table.machines import Machine, found_states, matched_states, merged_states

KINDS = ("lr0", "slr", "lalr", "lr1")
MAX_STATES = 300


def is_kind(value):
    """Whether the value is the kind of a table."""
    return isinstance(value, str) and value in KINDS


def written_items(machine, items, is_exact):
    """The ascending tuple of the items of a state, given as a dict from items to masks, by their names."""
    found = []
    for index, dot in items:
        name = machine.table_productions[index][0]
        if is_exact:
            found.extend([(name, dot, each) for each in machine.lookaheads_of(items[(index, dot)])])
        else:
            found.append((name, dot))
    return tuple(sorted(found))


def state_lookaheads(grammar, kind, machine, items):
    """A dict from the names of the productions of which a state has the item with the dot at the end, "accept" too.

    Its values are their lookaheads. For the kinds "lalr" and "lr1" the masks of the items tell them.
    """
    found = {}
    for item in items:
        if machine.symbol_behind(item) is None:
            name, head, body = machine.table_productions[item[0]]
            if item[0] == 0:
                found[name] = (END,)
            elif kind == "lr0":
                found[name] = machine.all_lookaheads
            elif kind == "slr":
                found[name] = grammar.follows(head)
            else:
                found[name] = machine.lookaheads_of(items[item])
    return found


def state_actions(moves, looks, lookahead):
    """The ascending tuple of the actions at a lookahead, by what a state leads to and its lookaheads."""
    found = [name for name in looks if lookahead in looks[name]]
    if lookahead in moves:
        found.append("shift")
    return tuple(sorted(found))


class Table:
    """The table of a grammar, of one kind. It never changes."""

    def __init__(self, grammar, kind="lalr"):
        """Find the states, and the actions of all cells."""
        if not isinstance(grammar, Grammar):
            raise InvalidGrammar("a table is of a grammar")
        if not is_kind(kind):
            raise InvalidOperation("there is no such kind of tables")
        self._grammar = grammar
        self._kind = kind
        machine = Machine(grammar)
        is_exact = kind == "lr1"
        states, self._moves = found_states(machine, is_exact, MAX_STATES)
        if is_exact:
            self._cores = matched_states(self._moves, found_states(machine, False, MAX_STATES)[1])
        else:
            self._cores = {state: state for state in range(len(states))}
        self._state_items = [written_items(machine, items, is_exact) for items in states]
        if kind == "lalr":
            states = merged_states(machine, self._moves, len(states))
        self._looks = [state_lookaheads(grammar, kind, machine, items) for items in states]
        self._cells = self._found_cells(machine.all_lookaheads)

    def _found_cells(self, lookaheads):
        """The dict from all cells that have an action to their actions."""
        found = {}
        for state, moves in enumerate(self._moves):
            for lookahead in lookaheads:
                actions = state_actions(moves, self._looks[state], lookahead)
                if actions:
                    found[(state, lookahead)] = actions
        return found

    @property
    def grammar(self):
        """The grammar."""
        return self._grammar

    @property
    def kind(self):
        """The kind."""
        return self._kind

    @property
    def cells(self):
        """The dict from the cells that have an action to the ascending tuples of their actions."""
        return {cell: self._cells[cell] for cell in self._cells}

    @property
    def conflicts(self):
        """The dict from the cells that have two actions or more to the ascending tuples of their actions."""
        return {cell: self._cells[cell] for cell in self._cells if len(self._cells[cell]) > 1}

    def _is_state(self, value):
        """Whether the value is a state."""
        return is_index(value, len(self._moves))

    def _is_cell(self, value):
        """Whether the value is a pair of a state and a terminal of the grammar or the end."""
        if not isinstance(value, tuple) or len(value) != 2 or not self._is_state(value[0]):
            return False
        return isinstance(value[1], str) and (value[1] == END or value[1] in self._grammar.terminals)

    def _is_symbol(self, value):
        """Whether the value is a symbol of the grammar."""
        return isinstance(value, str) and (value in self._grammar.terminals or value in self._grammar.nonterminals)

    def _check_state(self, value):
        """Raise an error if the value is no state."""
        if not self._is_state(value):
            raise InvalidOperation("a value is no state of the table")

    def items(self, state):
        """The ascending tuple of the items of a state."""
        self._check_state(state)
        return self._state_items[state]

    def after(self, state, symbol):
        """The state to which a symbol leads from a state, or None."""
        self._check_state(state)
        if not self._is_symbol(symbol):
            raise UnknownName(symbol)
        return self._moves[state].get(symbol)

    def trail(self, state, row):
        """The tuple of the state and those to which a row of symbols leads, one after another, or None.

        The state and the symbols are not checked.
        """
        found = [state]
        for symbol in row:
            state = self._moves[state].get(symbol)
            if state is None:
                return None
            found.append(state)
        return tuple(found)

    def walk(self, symbols):
        """The state to which a tuple of symbols leads from state 0, or None."""
        if not isinstance(symbols, tuple) or not all([self._is_symbol(symbol) for symbol in symbols]):
            raise InvalidOperation("only a tuple of symbols of the grammar leads on")
        found = self.trail(0, symbols)
        return None if found is None else found[len(symbols)]

    def lookaheads(self, state, name):
        """The ascending tuple of the lookaheads of the item of a production with the dot at the end, perhaps ()."""
        self._check_state(state)
        if not isinstance(name, str) or name not in self._grammar.names:
            raise UnknownName(name)
        return self._looks[state].get(name, ())

    def core(self, state):
        """The number of the "lalr" state with the same items without lookaheads."""
        self._check_state(state)
        return self._cores[state]

    def __getitem__(self, at):
        """The ascending tuple of the actions of a cell, perhaps ()."""
        if not self._is_cell(at):
            raise InvalidOperation("a value is no cell of the table")
        return self._cells.get(at, ())

    def __iter__(self):
        """Tables are not iterated over."""
        raise TypeError("a table is not iterated over")

    def __contains__(self, x):
        """Whether the value is a cell that has an action."""
        return self._is_cell(x) and x in self._cells

    def __len__(self):
        """The number of states."""
        return len(self._moves)

    def __eq__(self, other):
        """Whether the other one is a table of the same kind with an equal grammar."""
        return isinstance(other, Table) and self._grammar == other._grammar and self._kind == other._kind

    def __str__(self):
        """The kind, and how many states and conflicts there are."""
        return f"{self._kind} table of {len(self._moves)} states, {len(self.conflicts)} conflicts"
