"""Parsers: tables with resolutions, and their runs.

A moment of a run is a tuple (stack, parts, index, base): the states, the parts that were put on with all
but the first of them, the index of the next terminal, and that of the lowest state of the stack which has
been the last one at this lookahead, with all states on it put on since then.
"""

from chosentrees.base.symbols import END
from chosentrees.base.trees import check_grammar, check_text, is_text
from chosentrees.errors import InvalidLevels, InvalidOperation, InvalidResolution
from chosentrees.table.levels import Levels, is_resolution
from chosentrees.table.resolutions import with_ascending_keys
from chosentrees.table.tables import Table

FIRST_MOMENT = ((0,), (), 0, 0)


def has_come_back(moment):
    """Whether the last state has been the last one before, with nothing of the stack taken off since then."""
    stack, _, _, base = moment
    return stack[-1] in stack[base:-1]


def terminal_ahead(text, moment):
    """The terminal of the text that is the lookahead, or the end."""
    index = moment[2]
    return text[index] if index < len(text) else END


class Parser:
    """A table with a resolution. It never changes."""

    def __init__(self, table, resolution):
        """Keep the table and a copy of the resolution."""
        if not isinstance(table, Table):
            raise InvalidOperation("a parser has a table")
        if not is_resolution(table, resolution):
            raise InvalidResolution("a parser has a resolution of its table")
        self._table = table
        self._resolution = with_ascending_keys(resolution)
        self._rows = {name: (head, len(body)) for name, head, body in table.grammar.productions}

    @classmethod
    def by(cls, grammar, levels, *, kind="lalr"):
        """The parser of the table of this kind with the resolution by these levels."""
        check_grammar(grammar)
        if not isinstance(levels, Levels):
            raise InvalidLevels("a value is no levels")
        table = Table(grammar, kind)
        return cls(table, levels(table))

    @property
    def table(self):
        """The table."""
        return self._table

    @property
    def resolution(self):
        """The resolution."""
        return {cell: self._resolution[cell] for cell in self._resolution}

    @property
    def grammar(self):
        """The grammar of the table."""
        return self._table.grammar

    def _action(self, text, moment):
        """The action that the resolution has at a moment, or None."""
        return self._resolution.get((moment[0][-1], terminal_ahead(text, moment)))

    def _moment_behind(self, text, moment, action):
        """The moment behind a shift or a reduction."""
        stack, parts, index, base = moment
        if action == "shift":
            terminal = text[index]
            state = self._table.after(stack[-1], terminal)
            return stack + (state,), parts + (terminal,), index + 1, len(stack)
        head, many = self._rows[action]
        kept = len(stack) - many
        state = self._table.after(stack[kept - 1], head)
        node = (action, parts[kept - 1:])
        return stack[:kept] + (state,), parts[:kept - 1] + (node,), index, min(base, kept)

    def _run(self, text):
        """The outcome of a text."""
        moment = FIRST_MOMENT
        while True:
            if has_come_back(moment):
                return "endless", moment[2]
            action = self._action(text, moment)
            if action is None:
                return "refused", moment[2]
            if action == "accept":
                return "tree", moment[1][0]
            moment = self._moment_behind(text, moment, action)

    def outcome(self, text):
        """What becomes of a text: a tree, or the index at which it is refused or endless."""
        check_text(self._table.grammar, text)
        return self._run(text)

    def __call__(self, text):
        """The outcome of a text."""
        return self.outcome(text)

    def tree(self, text):
        """The tree that is built of a text, or None."""
        word, found = self.outcome(text)
        return found if word == "tree" else None

    def steps(self, text):
        """The steps of the run: the stack, the lookahead, and the action or None."""
        check_text(self._table.grammar, text)
        moment = FIRST_MOMENT
        while True:
            action = None if has_come_back(moment) else self._action(text, moment)
            yield moment[0], terminal_ahead(text, moment), action
            if action is None or action == "accept":
                return
            moment = self._moment_behind(text, moment, action)

    def __contains__(self, x):
        """Whether the value is a text of which a tree is built."""
        return is_text(self._table.grammar, x) and self._run(x)[0] == "tree"

    def __eq__(self, other):
        """Whether the other one is a parser with an equal table and an equal resolution."""
        return isinstance(other, Parser) and self._table == other._table and self._resolution == other._resolution

    def __str__(self):
        """The kind, and the number of cells in the resolution."""
        return f"{self._table.kind} parser with {len(self._resolution)} actions"
