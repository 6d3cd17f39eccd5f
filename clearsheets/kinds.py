"""What kind of value something is. Each function takes any value."""

from clearsheets.bounds import MAX_HOLDERS

MODES = ("any", "odd")


def is_number(value):
    """Return whether value is an integer."""
    # Python takes True and False for integers, the document does not.
    return isinstance(value, int) and not isinstance(value, bool)


def is_whole(value, low, high):
    """Return whether value is an integer from low to high."""
    return is_number(value) and low <= value <= high


def is_row(value, fewest, most):
    """Return whether value is a tuple of fewest to most items."""
    return isinstance(value, tuple) and fewest <= len(value) <= most


def is_holders(value):
    """Return whether value is a number of holders."""
    return is_whole(value, 1, MAX_HOLDERS)


def is_word(value, words):
    """Return whether value is one of the words."""
    return isinstance(value, str) and value in words


def is_mode(value):
    """Return whether value is a mode."""
    return is_word(value, MODES)
