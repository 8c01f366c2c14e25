"""Trees one by one, made by choices.

A forest has `roots()`, a list of tasks, one for each group of trees, and `choices(task)`, the list of the ways to do
a task, never empty. A way is a tuple of what comes in its place: tasks, and the entries of trees. An entry is a
terminal, or a pair of the name of a production and the number of its parts; each node comes ahead of its parts.
Tasks are tuples of three values or more.
"""


def folded(entries):
    """The tree of a list of its nodes and terminals, each node ahead of its parts.

    A terminal is given by itself, a node by the pair of its name and the number of its parts.
    """
    made = []
    for entry in entries[::-1]:
        if isinstance(entry, str):
            made.append(entry)
        else:
            name, many = entry
            parts = [made.pop() for _ in range(many)]
            made.append((name, tuple(parts)))
    return made[0]


def put_ahead(way, rest):
    """The tasks and entries of a way ahead of those of a chain: pairs of what comes first and the rest, or None."""
    chain = rest
    for each in way[::-1]:
        chain = (each, chain)
    return chain


class Walk:
    """A walk through the trees of a root, in the order of the choices, the first choice counting most."""

    def __init__(self, forest, root):
        """Begin with the first tree."""
        self._forest = forest
        self._entries = []
        # Where there was another way: the ways, the one that is taken, what is behind, and the number of entries.
        self._forks = []
        self._is_ended = False
        self._complete((root, None))

    def _complete(self, chain):
        """Do all tasks of a chain by the first ways."""
        while chain is not None:
            task, chain = chain
            if isinstance(task, str) or len(task) == 2:
                self._entries.append(task)
            else:
                ways = self._forest.choices(task)
                if len(ways) > 1:
                    self._forks.append((ways, 0, chain, len(self._entries)))
                chain = put_ahead(ways[0], chain)

    def is_ended(self):
        """Whether there is no tree any more."""
        return self._is_ended

    def tree(self):
        """The present tree."""
        return folded(self._entries)

    def advance(self):
        """Go on to the next tree, by another way at the last fork that has one."""
        while self._forks:
            ways, at, chain, many = self._forks.pop()
            if at + 1 < len(ways):
                self._forks.append((ways, at + 1, chain, many))
                del self._entries[many:]
                self._complete(put_ahead(ways[at + 1], chain))
                return
        self._is_ended = True


def forest_trees(forest):
    """The trees of a forest, one by one."""
    for root in forest.roots():
        walk = Walk(forest, root)
        while not walk.is_ended():
            yield walk.tree()
            walk.advance()
