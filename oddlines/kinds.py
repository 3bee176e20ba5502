"""Kinds of values, as the document tells them: integers that are no bools, and pairs."""


def is_int_between(value, low, high):
    """Tell whether value is an integer from low to high, both included."""
    # Python takes True and False for integers; the document does not.
    return isinstance(value, int) and not isinstance(value, bool) and low <= value <= high


def is_pair(value):
    """Tell whether value is a tuple of two items."""
    return isinstance(value, tuple) and len(value) == 2
