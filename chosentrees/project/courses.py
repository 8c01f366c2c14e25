"""What a project has been through, and blocks behind which all is as before."""

from chosentrees.base.symbols import text_order


class Stand:
    """What a project has between two steps. It never changes.

    `maker` is its parser, `wanted` its wishes, `held` the dict from its kept texts to their trees, and `texts` the
    tuple of the kept texts, the least one first.
    """

    def __init__(self, maker, wanted, held):
        """Keep what there is."""
        self.maker = maker
        self.wanted = wanted
        self.held = held
        self.texts = tuple(sorted(held, key=text_order))


class Course:
    """The stands of a project. It never changes.

    `done` is the tuple of the pairs of a word and the stand behind this step, for all steps in effect; ahead of them
    is one with the first stand. `undone` has likewise the steps that were taken back, the last one last. `former` is
    the parser before the last change, or None.
    """

    def __init__(self, done, undone, former):
        """Keep the steps; the present stand is that behind the last one in effect."""
        self.done = done
        self.undone = undone
        self.former = former
        self.now = done[-1][1]
        self.texts = self.now.texts

    def count_done(self):
        """The number of steps in effect."""
        return len(self.done) - 1

    def words(self):
        """The tuple of the words of the steps in effect."""
        return tuple([word for word, stand in self.done[1:]])

    def behind_step(self, word, stand):
        """The course with one more step."""
        return Course((*self.done, (word, stand)), (), self.now.maker)

    def with_undone(self, many):
        """The course with so many of the last steps taken back."""
        kept = len(self.done) - many
        return Course(self.done[:kept], self.undone + self.done[kept:][::-1], self.now.maker)

    def with_redone(self, many):
        """The course with so many steps done again, the last one taken back first."""
        kept = len(self.undone) - many
        return Course(self.done + self.undone[kept:][::-1], self.undone[:kept], self.now.maker)


class HeldCourse:
    """A course at the beginning of a block, and what was held by a block around it, or None."""

    def __init__(self, course, outer):
        """Keep both."""
        self.course = course
        self.outer = outer


class Trial:
    """A block in which a project may change; behind it all is as before."""

    def __init__(self, project):
        """Keep the project."""
        self._project = project
        self._held = None

    def __enter__(self):
        """Hold the course of the project, which never changes itself."""
        self._held = HeldCourse(self._project.course, self._held)
        return self._project

    def __exit__(self, kind, value, trace):
        """Give the project its course back; an error goes on."""
        project = self._project
        project.course = self._held.course
        self._held = self._held.outer
