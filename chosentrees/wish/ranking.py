"""Levels of precedence for a resolution, or why there are none."""

from chosentrees.base.integers import is_index
from chosentrees.errors import InvalidNumber, InvalidOperation, InvalidResolution
from chosentrees.table.levels import Levels, check_table, is_contained, is_resolution
from chosentrees.wish.arrows import FIRST, SECOND, THIRD, Walks, all_choices, arrow_of, never_holds
from chosentrees.wish.rules import is_row_of
from chosentrees.wish.used import is_paper_form

MOST_FREE = 3


def check_resolution(table, resolution):
    """Raise an error if a value is no table, or no resolution of it."""
    check_table(table)
    if not is_resolution(table, resolution):
        raise InvalidResolution("a value is no resolution of the table")


def check_free(table, free):
    """Raise an error if a value is no ascending tuple of names of productions."""
    if not is_row_of(free, table.grammar.names):
        raise InvalidOperation("free are some names of productions, ascending")


class Ranking:
    """What a resolution asks of levels, if some productions are free. It never changes."""

    def __init__(self, grammar, choices, free):
        """Draw the arrows, each for its first constraint."""
        self._free = free
        self._never = None
        self._drawn = {}
        for chosen, constraint in choices:
            if self._never is None and never_holds(grammar, free, chosen, constraint):
                self._never = constraint
            arrow = arrow_of(grammar, free, chosen, constraint)
            if arrow is not None:
                self._drawn.setdefault(arrow, constraint)
        self._held = {point: True for arrow in self._drawn if arrow[0] == FIRST for point in arrow[1:]}
        self._walks = Walks([arrow for arrow in self._drawn if arrow[0] != THIRD and self.is_held(arrow)])
        self._orders = Walks([arrow for arrow in self._drawn if arrow[0] == THIRD])

    def is_held(self, arrow):
        """Whether there is an arrow of the first sort at both ends of an arrow of the first two sorts."""
        return arrow[1] in self._held and arrow[2] in self._held

    def obstacle(self):
        """Why no levels fit, as a paper, or None."""
        if self._never is not None:
            return "never", self._never
        for word, walks, sorts in (("way", self._walks, (FIRST, SECOND)), ("order", self._orders, (THIRD,))):
            walk = walks.closed_walk(sorts)
            if walk is not None:
                return word, tuple([self._drawn[arrow] for arrow in walk])
        return None

    def levels(self):
        """Levels that fit, if there is no obstacle.

        A level has the points that lead to one another; only such arrows are between equal levels.
        """
        groups = []
        own = {name: None for name in self._free}
        for points in self._walks.ranked():
            for word, name in points:
                if word == "production":
                    own[name] = len(groups)
            associativity = "right" if SECOND in self._walks.sorts_within(points) else "left"
            groups.append((associativity, tuple([each for word, each in points if word == "terminal"])))
        order = tuple([name for names in self._orders.ranked() for name in names])
        return Levels(tuple(groups), own=own, order=order)


def levels_paper(table, resolution, *, free=()):
    """Levels that fit a resolution, with some productions that may have levels of their own, or why there are none."""
    check_resolution(table, resolution)
    check_free(table, free)
    ranking = Ranking(table.grammar, all_choices(table, resolution), free)
    obstacle = ranking.obstacle()
    return ("levels", ranking.levels()) if obstacle is None else obstacle


def can_fit(table, resolution, *, free=()):
    """Whether there are levels that fit."""
    check_resolution(table, resolution)
    check_free(table, free)
    return Ranking(table.grammar, all_choices(table, resolution), free).obstacle() is None


def do_fit(table, resolution, free, value):
    """Whether the value is levels that fit."""
    if not isinstance(value, Levels) or not all([name in free for name in value.own]):
        return False
    return is_contained(resolution, value(table))


def is_constraint(table, resolution, value):
    """Whether the value is a constraint of the resolution."""
    if not isinstance(value, tuple) or len(value) != 2:
        return False
    cell, loser = value
    # The test by the table comes first, as True is equal to 1 where keys are looked up.
    if cell not in table or cell not in resolution or not isinstance(loser, str):
        return False
    return loser in table[cell] and loser != resolution[cell]


def arrows_told(table, resolution, free, value):
    """The list of the arrows, or None, of a tuple of constraints; None if the value is no such tuple, or empty."""
    if not isinstance(value, tuple) or not all([is_constraint(table, resolution, each) for each in value]):
        return None
    return [arrow_of(table.grammar, free, resolution[each[0]], each) for each in value]


def is_closed_walk(arrows, sorts):
    """Whether a list of arrows, or None, is a closed walk with arrows of all these sorts and of no others."""
    if None in arrows or sorted({arrow[0] for arrow in arrows}) != list(sorts):
        return False
    return all([arrows[at - 1][2] == arrows[at][1] for at in range(len(arrows))])


def is_walk_paper(table, resolution, value, free):
    """Whether the value is a paper with constraints that are a closed walk."""
    arrows = arrows_told(table, resolution, free, value[1])
    if arrows is None:
        return False
    if value[0] == "order":
        return is_closed_walk(arrows, (THIRD,))
    ranking = Ranking(table.grammar, all_choices(table, resolution), free)
    return is_closed_walk(arrows, (FIRST, SECOND)) and all([ranking.is_held(arrow) for arrow in arrows])


def is_levels_paper(table, resolution, value, *, free=()):
    """Whether the value is a paper of the resolution, with these free productions."""
    check_resolution(table, resolution)
    check_free(table, free)
    if not is_paper_form(value, 2):
        return False
    if value[0] == "levels":
        return do_fit(table, resolution, free, value[1])
    if value[0] == "never":
        if not is_constraint(table, resolution, value[1]):
            return False
        return never_holds(table.grammar, free, resolution[value[1][0]], value[1])
    return value[0] in ("way", "order") and is_walk_paper(table, resolution, value, free)


def names_told(grammar, choices):
    """The ascending list of the names of the productions that are held against shifts."""
    told = [(chosen, constraint[1]) for chosen, constraint in choices]
    return sorted({name for pair in told if "shift" in pair for name in pair if name in grammar.names})


def longer_rows(rows, names):
    """The list of the ascending rows with one name more behind those of a list of rows; it ascends, too."""
    return [(*row, name) for row in rows for name in names if not row or name > row[-1]]


def free_needed(table, resolution, *, most=2):
    """The ascending tuple of all tuples of free productions with which levels fit, with the fewest names."""
    check_resolution(table, resolution)
    if not is_index(most, MOST_FREE + 1):
        raise InvalidNumber(most)
    # A production that is never held against a shift makes no difference, so that no such tuple has it.
    choices = all_choices(table, resolution)
    names = names_told(table.grammar, choices)
    rows = [()]
    for _ in range(most + 1):
        found = [row for row in rows if Ranking(table.grammar, choices, row).obstacle() is None]
        if found:
            return tuple(found)
        rows = longer_rows(rows, names)
    return ()
