"""The errors of the package."""


class GrammarError(ValueError):
    """A value is not of the form that is asked for."""


class InvalidGrammar(GrammarError):
    """A value is no grammar."""


class InvalidTree(GrammarError):
    """A value is no tree."""


class InvalidText(GrammarError):
    """A value is no text."""


class InvalidResolution(GrammarError):
    """A value is no resolution."""


class InvalidLevels(GrammarError):
    """A value is no levels of precedence."""


class InvalidFilter(GrammarError):
    """A value is no filter."""


class InvalidWishes(GrammarError):
    """A value is no wishes."""


class InvalidOperation(GrammarError):
    """Something cannot be done with this value."""


class ParseError(GrammarError):
    """A line is not written as it should be."""

    def __init__(self, line):
        """Keep the index of the line, or None."""
        self.line = line


class UnknownName(KeyError):
    """There is nothing of this name."""

    def __init__(self, wanted):
        """Keep the value that was wanted."""
        self.wanted = wanted


class NothingToUndo(IndexError):
    """There are not so many steps to undo, or to do again."""

    def __init__(self, many):
        """Keep the number of steps."""
        self.many = many


class TooMany(OverflowError):
    """A result would be greater than its limit."""

    def __init__(self, limit):
        """Keep the limit."""
        self.limit = limit


class InvalidNumber(RuntimeError):
    """A value is no number, or none in the range that is asked for."""

    def __init__(self, given):
        """Keep the value that was given."""
        self.given = given


class Refused(ArithmeticError):
    """A step of a project is refused."""

    def __init__(self, reason):
        """Keep the reason."""
        self.reason = reason
