"""Resolutions of tables, and levels of precedence that give some."""

from chosentrees.base.grammars import Grammar, is_production
from chosentrees.base.integers import is_ascending, is_index
from chosentrees.base.symbols import is_name, is_terminal
from chosentrees.errors import InvalidGrammar, InvalidLevels, InvalidNumber, InvalidOperation, UnknownName
from chosentrees.table.resolutions import check_any_resolution, differs_at, with_ascending_keys
from chosentrees.table.tables import Table

ASSOCIATIVITIES = ("left", "right", "none")
MAX_LEVELS = 26


def check_table(value):
    """Raise an error if the value is no table."""
    if not isinstance(value, Table):
        raise InvalidOperation("a value is no table")


def is_resolution(table, value):
    """Whether the value is a resolution of the table."""
    check_table(table)
    if not isinstance(value, dict):
        return False
    cells = table.cells
    # The test by the table comes first, as True is equal to 1 where keys are looked up.
    return all([cell in table and isinstance(value[cell], str) and value[cell] in cells[cell] for cell in value])


def settled(table):
    """The resolution that has just the cells with one action."""
    check_table(table)
    cells = table.cells
    return {cell: cells[cell][0] for cell in cells if len(cells[cell]) == 1}


def is_contained(one, other):
    """Whether the other resolution has all cells of the one, with the same actions."""
    check_any_resolution(one)
    check_any_resolution(other)
    return all([cell in other and other[cell] == one[cell] for cell in one])


def joined(*resolutions):
    """The resolution with all cells of these."""
    for each in resolutions:
        check_any_resolution(each)
    found = {}
    for each in resolutions:
        if differs_at(each, found):
            raise InvalidOperation("two resolutions differ at a cell")
        for cell in each:
            found[cell] = each[cell]
    return with_ascending_keys(found)


def common(*resolutions):
    """The resolution with the cells that all of these have, with the same action."""
    for each in resolutions:
        check_any_resolution(each)
    found = {}
    for at, each in enumerate(resolutions):
        found = {cell: each[cell] for cell in each if at == 0 or found.get(cell) == each[cell]}
    return with_ascending_keys(found)


def is_group(value):
    """Whether the value is a pair of an associativity and an ascending tuple of terminals."""
    if not isinstance(value, tuple) or len(value) != 2:
        return False
    associativity, terminals = value
    if not isinstance(associativity, str) or associativity not in ASSOCIATIVITIES or not isinstance(terminals, tuple):
        return False
    return all([is_terminal(each) for each in terminals]) and is_ascending(terminals)


def check_groups(value):
    """Raise an error if the value is no tuple of at most 26 levels without a terminal that stands twice."""
    if not isinstance(value, tuple) or len(value) > MAX_LEVELS:
        raise InvalidLevels("there is a tuple of at most 26 levels")
    if not all([is_group(group) for group in value]):
        raise InvalidLevels("a level is a pair of an associativity and an ascending tuple of terminals")
    terminals = [terminal for associativity, row in value for terminal in row]
    if len(set(terminals)) < len(terminals):
        raise InvalidLevels("a terminal has one level")


def is_own(value, many):
    """Whether the value is a dict from names to indices of so many levels, or to None."""
    if not isinstance(value, dict):
        return False
    return all([is_name(name) and (value[name] is None or is_index(value[name], many)) for name in value])


def is_order(value):
    """Whether the value is a tuple of different names."""
    if not isinstance(value, tuple) or not all([is_name(name) for name in value]):
        return False
    return len(set(value)) == len(value)


class Levels:
    """Levels of precedence, the lowest first. They never change."""

    def __init__(self, groups=(), *, own=None, order=()):
        """Check the levels, what is told for single productions, and the order of productions."""
        check_groups(groups)
        told = {} if own is None else own
        if not is_own(told, len(groups)):
            raise InvalidLevels("names have the index of a level, or None")
        if not is_order(order):
            raise InvalidLevels("the order has different names")
        self._groups = groups
        self._own = with_ascending_keys(told)
        self._order = order
        self._terminals = {terminal: index for index, (associativity, terminals) in enumerate(groups)
                           for terminal in terminals}

    @property
    def groups(self):
        """The levels, the lowest first."""
        return self._groups

    @property
    def own(self):
        """The dict from names to indices of levels, or to None."""
        return {name: self._own[name] for name in self._own}

    @property
    def order(self):
        """The names that come first among reductions, in their order."""
        return self._order

    def of_terminal(self, terminal):
        """The index of the level of a terminal, or None."""
        if not is_terminal(terminal):
            raise InvalidOperation("only a terminal has a level")
        return self._terminals.get(terminal)

    def of_production(self, production):
        """The index of the level of a production of any grammar, or None."""
        if not is_production(production):
            raise InvalidOperation("only a production has a level")
        name, _, body = production
        if name in self._own:
            return self._own[name]
        terminals = [symbol for symbol in body if is_terminal(symbol)]
        return self._terminals.get(terminals[-1]) if terminals else None

    def _preferred(self, terminal, production):
        """The winner of the shift of a terminal and the reduction of a production, or None."""
        shifted = self._terminals.get(terminal)
        reduced = self.of_production(production)
        if shifted is None or reduced is None or shifted > reduced:
            return "shift"
        if shifted < reduced:
            return production[0]
        return {"left": production[0], "right": "shift", "none": None}[self._groups[shifted][0]]

    def prefers(self, grammar, terminal, name):
        """How the shift of this terminal and the reduction of this production compare: the winner, or None."""
        if not isinstance(grammar, Grammar):
            raise InvalidGrammar("a value is no grammar")
        if not isinstance(terminal, str) or terminal not in grammar.terminals:
            raise UnknownName(terminal)
        # A production is in its grammar, too, but it is no name.
        if not isinstance(name, str) or name not in grammar:
            raise UnknownName(name)
        return self._preferred(terminal, grammar[name])

    def _ranks(self, grammar):
        """A dict from the names of the grammar to their ranks among reductions, the first one 0."""
        first = [name for name in self._order if name in grammar]
        row = first + [name for name in grammar.names if name not in first]
        return {name: rank for rank, name in enumerate(row)}

    def _wins(self, grammar, ranks, lookahead, one, other):
        """Whether one action wins against another one at a cell with this lookahead."""
        if one == "accept" or other == "accept":
            return one == "accept"
        if one == "shift":
            return self._preferred(lookahead, grammar[other]) == "shift"
        if other == "shift":
            return self._preferred(lookahead, grammar[one]) == one
        return ranks[one] < ranks[other]

    def __call__(self, table):
        """The resolution of the table by these levels."""
        check_table(table)
        grammar = table.grammar
        ranks = self._ranks(grammar)
        found = {}
        cells = table.cells
        for cell in cells:
            for one in cells[cell]:
                if all([self._wins(grammar, ranks, cell[1], one, other) for other in cells[cell] if other != one]):
                    found[cell] = one
        return found

    def __getitem__(self, at):
        """The associativity of a level."""
        if not is_index(at, len(self._groups)):
            raise InvalidNumber(at)
        return self._groups[at][0]

    def __iter__(self):
        """Levels are not iterated over."""
        raise TypeError("levels are not iterated over")

    def __contains__(self, x):
        """Whether the value is a terminal that has a level."""
        return is_terminal(x) and x in self._terminals

    def __len__(self):
        """The number of levels."""
        return len(self._groups)

    def __bool__(self):
        """Whether there is a level."""
        return bool(self._groups)

    def __eq__(self, other):
        """Whether the other ones are levels that are equal in all that is told."""
        if not isinstance(other, Levels):
            return False
        return self._groups == other._groups and self._own == other._own and self._order == other._order

    def __str__(self):
        """The levels, the lowest first: the associativity and the terminals of each."""
        if not self._groups:
            return "no levels"
        return ", ".join([" ".join([associativity, *terminals]) for associativity, terminals in self._groups])

    def __add__(self, other):
        """The levels with one more above all others."""
        if not is_group(other):
            raise InvalidOperation("only a pair of an associativity and terminals is added")
        return Levels(self._groups + (other,), own=self._own, order=self._order)
