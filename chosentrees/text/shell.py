"""A shell: lines that are done with a project, each with a string as its result."""

from chosentrees.base.grammars import read_production
from chosentrees.base.symbols import read_terminals, write_terminals
from chosentrees.compare.met import lost_texts
from chosentrees.errors import InvalidFilter, InvalidOperation, ParseError
from chosentrees.project.project import Project
from chosentrees.table.tables import is_kind
from chosentrees.text.texts import read_filter, read_tree, tree_text, write_demand, write_levels, written_number
from chosentrees.wish.filters import Wishes
from chosentrees.wish.labels import demands
from chosentrees.wish.papers import clashes

BETWEEN = " ; "
MANY_DIGITS = 4


def told_number(rest, digits):
    """The number of at most so many digits that stands behind a word; otherwise there is no such line."""
    many = written_number(rest)
    if many is None or len(rest) > digits:
        raise InvalidOperation("a number is missing")
    return many


def told_filter(rest):
    """The filter that stands behind a word."""
    try:
        return read_filter(rest.replace(BETWEEN, "\n"))
    except (ParseError, InvalidFilter):
        raise ParseError(None)


def told_production(rest):
    """The production that stands behind a word."""
    production = read_production(rest)
    if production is None:
        raise ParseError(None)
    return production


def do_want(project, rest):
    """Tell one more tree."""
    project.want(read_tree(project.grammar, rest))
    return "done"


def do_drop(project, rest):
    """Take a told tree away."""
    project.drop(read_tree(project.grammar, rest))
    return "done"


def do_allow(project, rest):
    """Take another filter."""
    project.allow(told_filter(rest))
    return "done"


def do_free(project):
    """Take no filter."""
    project.allow(None)
    return "done"


def do_add(project, rest):
    """Add a production."""
    project.add(told_production(rest))
    return "done"


def do_use(project, rest):
    """Take another kind of tables."""
    if not is_kind(rest):
        raise InvalidOperation("a kind is missing")
    project.use(rest)
    return "done"


def do_keep(project, rest):
    """Keep the tree of a text."""
    project.keep(read_terminals(rest))
    return "done"


def do_release(project, rest):
    """Keep the tree of a text no longer."""
    project.release(read_terminals(rest))
    return "done"


def do_undo(project, rest):
    """Take steps back."""
    return str(project.undo(many=told_number(rest, MANY_DIGITS)))


def do_redo(project, rest):
    """Do steps again."""
    return str(project.redo(many=told_number(rest, MANY_DIGITS)))


def do_parse(project, rest):
    """What becomes of a text."""
    word, found = project.parser.outcome(read_terminals(rest))
    return tree_text(found) if word == "tree" else f"{word} {found}"


def do_demands(project, rest):
    """What a tree demands."""
    tree = read_tree(project.grammar, rest)
    return ", ".join([write_demand(demand) for demand in demands(project.table, tree)])


def do_clashes(project, rest):
    """The cells at which all trees clash that a filter allows."""
    cells = clashes(project.table, Wishes(told_filter(rest)))
    return ", ".join([f"{state} {lookahead}" for state, lookahead in cells]) if cells else "-"


def do_levels(project):
    """Levels that fit."""
    levels = project.levels()
    return "none" if levels is None else write_levels(levels).replace("\n", BETWEEN)


def do_change(project):
    """The least text whose tree the last change has taken away."""
    text = project.change()
    return "-" if text is None else write_terminals(text)


def do_lost(project, rest):
    """The short texts that have a tree, but none that the parser builds."""
    most = told_number(rest, 1)
    parser = project.parser
    texts = [write_terminals(text) for text in lost_texts(parser, most=most)]
    return BETWEEN.join(texts) if texts else "-"


def do_show(project):
    """The lines of the grammar."""
    return BETWEEN.join(project.grammar.lines)


# What is done for a word alone, and for a word with a blank and something behind it, perhaps nothing.
ALONE = {"free": do_free, "levels": do_levels, "change": do_change, "show": do_show}
WITH_REST = {"want": do_want, "drop": do_drop, "allow": do_allow, "add": do_add, "use": do_use, "keep": do_keep,
             "release": do_release, "undo": do_undo, "redo": do_redo, "parse": do_parse, "demands": do_demands,
             "clashes": do_clashes, "lost": do_lost}


class Shell:
    """A shell that works on a project."""

    def __init__(self, project):
        """Keep the project itself."""
        if not isinstance(project, Project):
            raise InvalidOperation("a shell works on a project")
        self._project = project
        self._log = ()

    @property
    def project(self):
        """The project itself."""
        return self._project

    @property
    def log(self):
        """The lines that were done without an error."""
        return self._log

    def _result(self, line):
        """Do a line and return its result."""
        if not isinstance(line, str) or "\n" in line:
            raise InvalidOperation("a value is no line")
        word, blank, rest = line.partition(" ")
        if blank == "" and word in ALONE:
            action = ALONE[word]
            return action(self._project)
        if blank == "" or word not in WITH_REST:
            raise InvalidOperation("a value is no line")
        action = WITH_REST[word]
        return action(self._project, rest)

    def do(self, line):
        """Do a line and return its result."""
        result = self._result(line)
        self._log = (*self._log, line)
        return result

    def __call__(self, line):
        """Do a line and return its result."""
        return self.do(line)

    def results(self, lines):
        """The results of the lines of a tuple, each done when it is asked for."""
        if not isinstance(lines, tuple):
            raise InvalidOperation("a value is no tuple of lines")
        for line in lines:
            yield self.do(line)
