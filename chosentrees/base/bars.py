"""What bars forbid inside of a node, told by what is barred at the node itself.

A context is a triple (children, lefts, rights) of ascending tuples of the names of productions that are
barred at a node: as a part of the node around it, on a left edge, and on a right edge.
"""

FREE = ((), (), ())


def union(one, other):
    """The ascending tuple of what is in one of two ascending tuples."""
    if not one or not other:
        return one + other
    return tuple(sorted(set(one + other)))


class BarTable:
    """The bars of a filter by their words, outer productions and indices. It never changes."""

    def __init__(self, bars):
        """Keep the inner productions of the bars, which are given as tuples."""
        found = {}
        for how, outer, index, inner in bars:
            found.setdefault((how, outer, index), []).append(inner)
        self._inner = {place: tuple(sorted(found[place])) for place in found}

    def told_at(self, name, index):
        """The context that the bars of this production give to its part with this index, whatever is outside."""
        return (self._inner.get(("child", name, index), ()), self._inner.get(("left", name, index), ()),
                self._inner.get(("right", name, index), ()))

    def inside(self, name, many, index, context):
        """The context of the part with this index, of so many, of a node with a context and this production."""
        children, lefts, rights = self.told_at(name, index)
        if index == 0:
            lefts = union(lefts, context[1])
        if index == many - 1:
            rights = union(rights, context[2])
        return children, lefts, rights


def is_barred(context, name):
    """Whether a production is barred in a context."""
    children, lefts, rights = context
    return name in children or name in lefts or name in rights
