"""Marks of two webs, which show that no deeds lead from the one to the other."""

from oddlines.classes import holders
from oddlines.oddsets import odd_set


def marks(one, other):
    """Return all marks of one and other, those with lesser numbers first."""
    if one[0] != other[0]:
        return ("many",)
    here = odd_set(one)
    there = odd_set(other)
    if here != there:
        return tuple([("odd", d) for d in range(one[0]) if (d in here) != (d in there)])
    # Both have the same locked numbers, as these hang on the odd set alone.
    unlike = [a for a, b in zip(holders(one), holders(other)) if a != b]
    return tuple([("holder", d) for d, _ in unlike])


def mark(one, other):
    """Return the mark of one and other with the least number, None if they have none."""
    found = marks(one, other)
    return found[0] if found else None


def joined(one, other):
    """Return whether some row of deeds leads from one to other."""
    return mark(one, other) is None
