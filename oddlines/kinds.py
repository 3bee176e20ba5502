"""Kinds of values, as the document tells them: integers that are no bools, pairs, ascending tuples."""


def is_int_between(value, low, high):
    """Tell whether value is an integer from low to high, both included."""
    # Python takes True and False for integers; the document does not.
    return isinstance(value, int) and not isinstance(value, bool) and low <= value <= high


def is_pair(value):
    """Tell whether value is a tuple of two items."""
    return isinstance(value, tuple) and len(value) == 2


def is_ascending(value, low, high):
    """Tell whether value is a tuple of integers from low to high, each greater than the one ahead."""
    if not isinstance(value, tuple):
        return False
    least = low
    for item in value:
        if not is_int_between(item, least, high):
            return False
        least = item + 1
    return True
