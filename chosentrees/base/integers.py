"""Integers, and rows in ascending order."""

# Integers that are passed have at most sixty digits.
BEYOND = 10 ** 60


def is_integer(value):
    """Whether the value is an integer of at most sixty digits, and neither True nor False."""
    return isinstance(value, int) and not isinstance(value, bool) and -BEYOND < value < BEYOND


def is_index(value, many):
    """Whether the value is an integer from 0 to below `many`."""
    return is_integer(value) and 0 <= value < many


def is_ascending(row):
    """Whether each value of a row is greater than the one ahead of it."""
    return all([row[at] < row[at + 1] for at in range(len(row) - 1)])
