"""A project, told plainly: values in lists, everything found anew after each step, and copies to come back to."""

from chosentrees.base.grammars import Grammar, is_production
from chosentrees.base.symbols import is_terminals
from chosentrees.errors import (InvalidFilter, InvalidNumber, InvalidOperation, InvalidText, InvalidTree, NothingToUndo,
                                Refused, TooMany)
from chosentrees.run.parsers import Parser
from chosentrees.table.tables import KINDS, Table
from chosentrees.wish.filters import Filter, Wishes
from chosentrees.wish.labels import is_built
from chosentrees.wish.papers import clashes, least_resolution

from plain_outcomes import order


class PlainProject:
    """The same as a project, slowly."""

    def __init__(self, grammar, kind="lalr"):
        self.values = {"grammar": grammar, "kind": kind, "bars": None, "trees": [], "kept": {}}
        self.log, self.states, self.undone, self.former = [], [self.values], [], None

    def parser(self, values=None):
        """The parser of some values."""
        told = self.values if values is None else values
        table = Table(told["grammar"], told["kind"])
        return Parser(table, least_resolution(table, Wishes(told["bars"], tuple(told["trees"]))))

    def step(self, word, **changes):
        """Do a step that is not refused."""
        if len(self.log) == 200:
            raise TooMany(200)
        values = {**self.values, **changes}
        if word not in ("keep", "release"):
            wishes = Wishes(values["bars"], tuple(values["trees"]))
            if clashes(Table(values["grammar"], values["kind"]), wishes):
                raise Refused("clash")
            parser = self.parser(values)
            for text in sorted(values["kept"], key=order):
                if not is_built(parser, values["kept"][text]):
                    raise Refused(("lost", text))
        self.former = self.parser()
        self.values = values
        self.log = self.log + [word]
        self.states = self.states + [values]
        self.undone = []

    def want(self, tree):
        """Tell a tree."""
        if not Wishes(trees=(tree,)).fit(self.values["grammar"]):
            raise InvalidTree("")
        if tree in self.values["trees"]:
            raise InvalidOperation("")
        if len(self.values["trees"]) == 20:
            raise TooMany(20)
        self.step("want", trees=self.values["trees"] + [tree])

    def drop(self, tree):
        """Take a told tree away."""
        if tree not in self.values["trees"]:
            raise InvalidOperation("")
        self.step("drop", trees=[each for each in self.values["trees"] if each != tree])

    def allow(self, bars):
        """Take a filter."""
        if bars is not None and not (isinstance(bars, Filter) and bars.fits(self.values["grammar"])):
            raise InvalidFilter("")
        self.step("allow", bars=bars)

    def add(self, production):
        """Add a production."""
        if not is_production(production):
            raise InvalidOperation("")
        self.step("add", grammar=Grammar(self.values["grammar"].productions + (production,)))

    def use(self, kind):
        """Take a kind."""
        if kind not in KINDS:
            raise InvalidOperation("")
        self.step("use", kind=kind)

    def keep(self, text):
        """Keep a text."""
        if not is_terminals(text) or set(text) - set(self.values["grammar"].terminals):
            raise InvalidText("")
        tree = self.parser().tree(text)
        if tree is None or text in self.values["kept"]:
            raise InvalidOperation("")
        if len(self.values["kept"]) == 20:
            raise TooMany(20)
        self.step("keep", kept={**self.values["kept"], text: tree})

    def release(self, text):
        """Release a text."""
        if text not in list(self.values["kept"]):
            raise InvalidOperation("")
        self.step("release", kept={each: tree for each, tree in self.values["kept"].items() if each != text})

    def undo(self, many):
        """Take steps back."""
        if isinstance(many, bool) or not isinstance(many, int) or many < 0:
            raise InvalidNumber(many)
        if many > len(self.log):
            raise NothingToUndo(many)
        self.former = self.parser()
        for _ in range(many):
            self.undone = self.undone + [(self.log[-1], self.states[-1])]
            self.log, self.states = self.log[:-1], self.states[:-1]
        self.values = self.states[-1]
        return len(self.log)

    def redo(self, many):
        """Do steps again."""
        if isinstance(many, bool) or not isinstance(many, int) or many < 0:
            raise InvalidNumber(many)
        if many > len(self.undone):
            raise NothingToUndo(many)
        self.former = self.parser()
        for _ in range(many):
            word, values = self.undone[-1]
            self.log, self.states, self.undone = self.log + [word], self.states + [values], self.undone[:-1]
        self.values = self.states[-1]
        return len(self.log)
