"""The arrows that a resolution draws, and walks of them.

A constraint is a pair of a cell and an action that the resolution does not choose there. Its arrow is a triple
(sort, begin, end), with the points at which it begins and ends. For the first two sorts a point is a pair of
"terminal" or "production" and what it is; for the third one it is the name of a production.
"""

FIRST = 1
SECOND = 2
THIRD = 3


def all_choices(table, resolution):
    """The list of (chosen, constraint) of a resolution by ascending constraints.

    Of those that are alike but for the state, it has the first one alone.
    """
    found = {}
    for cell in sorted(resolution):
        for loser in table[cell]:
            if loser != resolution[cell]:
                found.setdefault((resolution[cell], loser, cell[1]), (resolution[cell], (cell, loser)))
    return list(found.values())


def point_of(grammar, free, name):
    """The point of a production, or None."""
    if name in free:
        return "production", name
    terminals = [symbol for symbol in grammar[name][2] if symbol in grammar.terminals]
    return ("terminal", terminals[-1]) if terminals else None


def arrow_of(grammar, free, chosen, constraint):
    """The arrow of a constraint with this chosen action, or None."""
    (_, lookahead), loser = constraint
    ahead = ("terminal", lookahead)
    if "accept" in (chosen, loser):
        return None
    if loser == "shift":
        point = point_of(grammar, free, chosen)
        return None if point is None else (FIRST, ahead, point)
    if chosen == "shift":
        point = point_of(grammar, free, loser)
        return None if point is None else (SECOND, point, ahead)
    return THIRD, chosen, loser


def never_holds(grammar, free, chosen, constraint):
    """Whether no levels can have it that this action is chosen."""
    loser = constraint[1]
    if loser == "accept":
        return True
    return loser == "shift" and chosen != "accept" and point_of(grammar, free, chosen) is None


def paths_from(begin, arrows):
    """A dict from the points to which walks lead from a point, itself too, to the arrows of a shortest walk."""
    ahead = {}
    for arrow in arrows:
        ahead.setdefault(arrow[1], []).append(arrow)
    found = {begin: ()}
    waiting = [begin]
    at = 0
    while at < len(waiting):
        point = waiting[at]
        for arrow in ahead.get(point, []):
            if arrow[2] not in found:
                found[arrow[2]] = (*found[point], arrow)
                waiting.append(arrow[2])
        at = at + 1
    return found


class Walks:
    """The points of some arrows, and the walks of these. They never change."""

    def __init__(self, arrows):
        """Find a shortest walk between each two points that have one."""
        self._arrows = arrows
        self._paths = {}
        for arrow in arrows:
            for point in arrow[1:]:
                if point not in self._paths:
                    self._paths[point] = paths_from(point, arrows)

    def points(self):
        """The ascending list of the points."""
        return sorted(self._paths)

    def leads(self, begin, end):
        """Whether a walk, perhaps of no arrow, leads from a point to another one."""
        return end in self._paths[begin]

    def closed_walk(self, sorts):
        """The tuple of the arrows of a closed walk with arrows of each of one or two sorts, or None."""
        for one in self._arrows:
            for other in self._arrows:
                is_told = one[0] == sorts[0] and other[0] == sorts[-1]
                if is_told and self.leads(one[2], other[1]) and self.leads(other[2], one[1]):
                    return self._walk(one, other)
        return None

    def _walk(self, one, other):
        """The closed walk of an arrow, what leads to another one, this one, and what leads back."""
        if one == other:
            return (one, *self._paths[one[2]][one[1]])
        return (one, *self._paths[one[2]][other[1]], other, *self._paths[other[2]][one[1]])

    def ranked(self):
        """The list of the groups of points that lead to one another, each behind those that lead to it."""
        places = {}
        for point in self.points():
            around = [other for other in self.points() if self.leads(point, other) and self.leads(other, point)]
            many = len([other for other in self.points() if self.leads(other, point)])
            places.setdefault((many, around[0]), []).append(point)
        return [places[place] for place in sorted(places)]

    def sorts_within(self, points):
        """The ascending list of the sorts of the arrows between some points."""
        return sorted({arrow[0] for arrow in self._arrows if arrow[1] in points and arrow[2] in points})
