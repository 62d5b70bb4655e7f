"""What is an integer, what is a name, and the checks of arguments of rows."""

from samelists.errors import InvalidRow

LETTERS = "abcdefghijklmnopqrstuvwxyz"
LONGEST_NAME = 4
MOST_PARTS = 4
HIGHEST_COUNT = 3


def is_integer(value):
    """Whether any value is an integer."""
    return isinstance(value, int) and not isinstance(value, bool)


def is_name(value):
    """Whether any value is a name."""
    if not isinstance(value, str) or not 1 <= len(value) <= LONGEST_NAME:
        return False
    return all([letter in LETTERS for letter in value])


def ascending(names):
    """The tuple of these names, each once."""
    return tuple(sorted(set(names)))


def checked_names(*values):
    """The names among the arguments of a row: ascending, each once."""
    if not all([is_name(value) for value in values]):
        raise InvalidRow("name")
    return ascending(values)


def checked_parts(parts):
    """The tuple of the parts of a new list."""
    if len(parts) > MOST_PARTS:
        raise InvalidRow("parts")
    return parts


def checked_count(value):
    """The count of a row."""
    if not is_integer(value) or not 0 <= value <= HIGHEST_COUNT:
        raise InvalidRow("count")
    return value
