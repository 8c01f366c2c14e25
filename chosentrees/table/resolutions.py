"""What a dict of cells and actions is, whatever table it is for."""

from chosentrees.base.integers import is_integer
from chosentrees.base.symbols import END, OTHER_ACTIONS, is_name, is_terminal
from chosentrees.errors import InvalidResolution


def is_any_cell(value):
    """Whether the value is a pair of an integer of at least 0 and a terminal or the end."""
    if not isinstance(value, tuple) or len(value) != 2 or not is_integer(value[0]) or value[0] < 0:
        return False
    return is_terminal(value[1]) or (isinstance(value[1], str) and value[1] == END)


def is_any_action(value):
    """Whether the value is an action of some table."""
    return is_name(value) or (isinstance(value, str) and value in OTHER_ACTIONS)


def check_any_resolution(value):
    """Raise an error if the value is no dict from such cells to such actions."""
    if not isinstance(value, dict):
        raise InvalidResolution("a resolution is a dict")
    if not all([is_any_cell(cell) and is_any_action(value[cell]) for cell in value]):
        raise InvalidResolution("a resolution has cells and actions")


def with_ascending_keys(told):
    """The dict with its keys in ascending order."""
    return {key: told[key] for key in sorted(told)}


def differs_at(one, other):
    """The list of the cells that two resolutions have with different actions."""
    return [cell for cell in one if cell in other and one[cell] != other[cell]]
